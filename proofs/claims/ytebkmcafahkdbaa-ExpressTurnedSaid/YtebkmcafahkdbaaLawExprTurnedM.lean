/- The law ExpressTurned, as a contract. Conditions: what package express answers. -/
import Derived.Test.YtebkmcafahkdbaaLawExprRisesM
import Derived.Test.YtebkmcafahkdbaaG19
import Derived.BigQuiet
import Derived.IntWalk
namespace Go.Proofs
open Go.RowKit Go.Shelf Go.Canon Go.Expr
attribute [local go_sem] Oper.semAt_some
attribute [local go_sem ↓] Go.wp_at_zero Go.wp_at_succ
/-! Nodes do not stand in an instance's box. -/
theorem nodes_ne {W : World} {b off B : Nat} {l : List Nd} {y : Ins} {an am : Option Addr} {n m cn cm : Nat} {t : TypeId} (hN : NodesAt W b off l) (hl : l ≠ []) (hB : InsBox W B y (.slice an n cn) (.slice am m cm) t) : b ≠ B := by
  rintro rfl
  obtain ⟨d, l', rfl⟩ := List.exists_cons_of_ne_nil hl
  obtain ⟨h0, h1, h2, h3, h4, h5, h6⟩ := hN.2 0 d rfl
  rw [Nat.zero_mul, Nat.add_zero] at h0 h1 h2 h3 h4 h5 h6
  rw [hB.c] at h0 h1 h2 h3 h4 h5 h6
  rcases (by omega : off = 0 ∨ off = 1 ∨ off = 2 ∨ off = 3 ∨ off = 4 ∨ off = 5 ∨ off = 6 ∨ off = 7 ∨ 8 ≤ off) with rfl | rfl | rfl | rfl | rfl | rfl | rfl | rfl | h
  · simp at h0
  · simp at h5
  · simp at h4
  · simp at h3
  · simp at h2
  · simp at h1
  · simp at h0
  · simp at h0
  · rw [Array.getElem?_eq_none (by simpa using h)] at h0; cases h0
theorem HasNodes.but {W W' : World} {v : Value} {l : List Nd} {B : Nat} {y : Ins} {an am : Option Addr} {n m cn cm : Nat} {t : TypeId} (h : HasNodes W v l) (hB : InsBox W B y (.slice an n cn) (.slice am m cm) t) (hs : W'.heap.size = W.heap.size) (hk : ∀ k, k ≠ B → W'.heap[k]? = W.heap[k]?) : HasNodes W' v l := by
  rcases h with h | ⟨b, off, cap, h1, h2, h3, h4⟩
  · exact .inl h
  · by_cases e : l = []
    · subst e
      exact .inl ⟨rfl, _, _, h1⟩
    · have hne := nodes_ne h4 e hB
      have hc : ∀ o, W'.cell? ⟨b, o, none⟩ = W.cell? ⟨b, o, none⟩ := fun o => World.cell?_of_block (a := ⟨b, o, none⟩) (hk b hne)
      refine .inr ⟨b, off, cap, h1, h2, h3, by rw [hs]; exact h4.1, fun i d hi => ?_⟩
      have q := h4.2 i d hi
      exact ⟨(hc _).trans q.x, (hc _).trans q.y, (hc _).trans q.demand, (hc _).trans q.ready, (hc _).trans q.due, (hc _).trans q.service, (hc _).trans q.mate⟩
theorem put8_other (W : World) (B k : Nat) (u0 u1 u2 u3 u4 u5 u6 u7 : Value) (h : k ≠ B) : ((((((((W.setCell ⟨B, 0, none⟩ u0).setCell ⟨B, 1, none⟩ u1).setCell ⟨B, 2, none⟩ u2).setCell ⟨B, 3, none⟩ u3).setCell ⟨B, 4, none⟩ u4).setCell ⟨B, 5, none⟩ u5).setCell ⟨B, 6, none⟩ u6).setCell ⟨B, 7, none⟩ u7).heap[k]? = W.heap[k]? := by
  have e : ∀ (V : World) (j : Nat) (u : Value), (V.setCell ⟨B, j, none⟩ u).heap[k]? = V.heap[k]? := fun V j u => Below.heap_setCell _ _ _ _ h
  rw [e, e, e, e, e, e, e, e]
theorem put8_size (W : World) (B : Nat) (u0 u1 u2 u3 u4 u5 u6 u7 : Value) : ((((((((W.setCell ⟨B, 0, none⟩ u0).setCell ⟨B, 1, none⟩ u1).setCell ⟨B, 2, none⟩ u2).setCell ⟨B, 3, none⟩ u3).setCell ⟨B, 4, none⟩ u4).setCell ⟨B, 5, none⟩ u5).setCell ⟨B, 6, none⟩ u6).setCell ⟨B, 7, none⟩ u7).heap.size = W.heap.size := by simp [World.setCell]
theorem put8_own {W : World} {B : Nat} {x y : Ins} {vn vm un um : Value} {t : TypeId} (h : InsBox W B x vn vm t) : InsBox ((((((((W.setCell ⟨B, 0, none⟩ (.string y.name)).setCell ⟨B, 1, none⟩ (.int .i64 y.kind)).setCell ⟨B, 2, none⟩ (.int .i64 y.metric)).setCell ⟨B, 3, none⟩ (.int .i64 y.scale)).setCell ⟨B, 4, none⟩ (.int .i64 y.cap)).setCell ⟨B, 5, none⟩ (.int .i64 y.fleet)).setCell ⟨B, 6, none⟩ un).setCell ⟨B, 7, none⟩ um) B y un um t := by
  unfold InsBox at h ⊢
  simp [World.setCell, Array.getElem?_modify, h]
theorem put8_below {N : Nat} {w W : World} (B : Nat) (u0 u1 u2 u3 u4 u5 u6 u7 : Value) (h : Below N w W) (hN : N ≤ B) : Below N w ((((((((W.setCell ⟨B, 0, none⟩ u0).setCell ⟨B, 1, none⟩ u1).setCell ⟨B, 2, none⟩ u2).setCell ⟨B, 3, none⟩ u3).setCell ⟨B, 4, none⟩ u4).setCell ⟨B, 5, none⟩ u5).setCell ⟨B, 6, none⟩ u6).setCell ⟨B, 7, none⟩ u7) :=
  (((((((h.setCell hN _).setCell hN _).setCell hN _).setCell hN _).setCell hN _).setCell hN _).setCell hN _).setCell hN _
/-- The two instances in their boxes, behind all that there was. -/
structure TlS (W5 : World) (ya : Ins) (va : Value) (yb : Ins) (vb vm : Value) (W : World) : Prop where
  ab : InsBox W W5.heap.size ya va vm 25
  bb : InsBox W (W5.heap.size + 1) yb vb vm 25
  na : HasNodes W va ya.nodes
  nb : HasNodes W vb yb.nodes
  below : Below W5.heap.size W5 W
theorem TlS.next {W5 W W' : World} {ya yb : Ins} {va vb vm : Value} (h : TlS W5 ya va yb vb vm W) (hb : Below W.heap.size W W') : TlS W5 ya va yb vb vm W' :=
  ⟨h.ab.next hb, h.bb.next hb, h.na.next hb, h.nb.next hb, h.below.trans (hb.mono h.below.size)⟩
theorem TlS.drew {W5 W : World} {ya yb : Ins} {va vb vm : Value} (h : TlS W5 ya va yb vb vm W) : TlS W5 ya va yb vb vm W.drew := h.next (Below.refl _ _).drew
theorem tlS_start (W5 : World) (x : Ins) (vn vm : Value) (h : HasNodes W5 vn x.nodes) : TlS W5 x vn x vn vm ((W5.alloc (.cells #[.string x.name, .int .i64 x.kind, .int .i64 x.metric, .int .i64 x.scale, .int .i64 x.cap, .int .i64 x.fleet, vn, vm] 25)).alloc (.cells #[.string x.name, .int .i64 x.kind, .int .i64 x.metric, .int .i64 x.scale, .int .i64 x.cap, .int .i64 x.fleet, vn, vm] 25)) := by
  have hs : (W5.alloc (.cells #[.string x.name, .int .i64 x.kind, .int .i64 x.metric, .int .i64 x.scale, .int .i64 x.cap, .int .i64 x.fleet, vn, vm] 25)).heap.size = W5.heap.size + 1 := World.size_alloc _ _
  have hb := (fbelow_box W5 (.cells #[.string x.name, .int .i64 x.kind, .int .i64 x.metric, .int .i64 x.scale, .int .i64 x.cap, .int .i64 x.fleet, vn, vm] 25)).alloc (by rw [hs]; omega) (.cells #[.string x.name, .int .i64 x.kind, .int .i64 x.metric, .int .i64 x.scale, .int .i64 x.cap, .int .i64 x.fleet, vn, vm] 25)
  refine ⟨(InsBox.new W5 x vn vm 25).alloc _, ?_, h.next hb, h.next hb, hb⟩
  have e := InsBox.new (W5.alloc (.cells #[.string x.name, .int .i64 x.kind, .int .i64 x.metric, .int .i64 x.scale, .int .i64 x.cap, .int .i64 x.fleet, vn, vm] 25)) x vn vm 25
  rw [hs] at e
  exact e
theorem TlS.setA {W5 W : World} {ya yb y : Ins} {aa ab am au : Option Addr} {na nb nm ca cb cm nu cu : Nat} (h : TlS W5 ya (.slice aa na ca) yb (.slice ab nb cb) (.slice am nm cm) W) (hy : HasNodes W (.slice au nu cu) y.nodes) : TlS W5 y (.slice au nu cu) yb (.slice ab nb cb) (.slice am nm cm) ((((((((W.setCell ⟨W5.heap.size, 0, none⟩ (.string y.name)).setCell ⟨W5.heap.size, 1, none⟩ (.int .i64 y.kind)).setCell ⟨W5.heap.size, 2, none⟩ (.int .i64 y.metric)).setCell ⟨W5.heap.size, 3, none⟩ (.int .i64 y.scale)).setCell ⟨W5.heap.size, 4, none⟩ (.int .i64 y.cap)).setCell ⟨W5.heap.size, 5, none⟩ (.int .i64 y.fleet)).setCell ⟨W5.heap.size, 6, none⟩ (.slice au nu cu)).setCell ⟨W5.heap.size, 7, none⟩ (.slice am nm cm)) := by
  have hk : ∀ k, k ≠ W5.heap.size → ((((((((W.setCell ⟨W5.heap.size, 0, none⟩ (.string y.name)).setCell ⟨W5.heap.size, 1, none⟩ (.int .i64 y.kind)).setCell ⟨W5.heap.size, 2, none⟩ (.int .i64 y.metric)).setCell ⟨W5.heap.size, 3, none⟩ (.int .i64 y.scale)).setCell ⟨W5.heap.size, 4, none⟩ (.int .i64 y.cap)).setCell ⟨W5.heap.size, 5, none⟩ (.int .i64 y.fleet)).setCell ⟨W5.heap.size, 6, none⟩ (.slice au nu cu)).setCell ⟨W5.heap.size, 7, none⟩ (.slice am nm cm)).heap[k]? = W.heap[k]? := fun k hk => put8_other _ _ _ _ _ _ _ _ _ _ _ hk
  exact ⟨put8_own h.ab, (hk _ (by omega)).trans h.bb, hy.but h.ab (put8_size ..) hk, h.nb.but h.ab (put8_size ..) hk, put8_below _ _ _ _ _ _ _ _ _ h.below (Nat.le_refl _)⟩
theorem TlS.setB {W5 W : World} {ya yb y : Ins} {aa ab am au : Option Addr} {na nb nm ca cb cm nu cu : Nat} (h : TlS W5 ya (.slice aa na ca) yb (.slice ab nb cb) (.slice am nm cm) W) (hy : HasNodes W (.slice au nu cu) y.nodes) : TlS W5 ya (.slice aa na ca) y (.slice au nu cu) (.slice am nm cm) ((((((((W.setCell ⟨(W5.heap.size + 1), 0, none⟩ (.string y.name)).setCell ⟨(W5.heap.size + 1), 1, none⟩ (.int .i64 y.kind)).setCell ⟨(W5.heap.size + 1), 2, none⟩ (.int .i64 y.metric)).setCell ⟨(W5.heap.size + 1), 3, none⟩ (.int .i64 y.scale)).setCell ⟨(W5.heap.size + 1), 4, none⟩ (.int .i64 y.cap)).setCell ⟨(W5.heap.size + 1), 5, none⟩ (.int .i64 y.fleet)).setCell ⟨(W5.heap.size + 1), 6, none⟩ (.slice au nu cu)).setCell ⟨(W5.heap.size + 1), 7, none⟩ (.slice am nm cm)) := by
  have hk : ∀ k, k ≠ W5.heap.size + 1 → ((((((((W.setCell ⟨(W5.heap.size + 1), 0, none⟩ (.string y.name)).setCell ⟨(W5.heap.size + 1), 1, none⟩ (.int .i64 y.kind)).setCell ⟨(W5.heap.size + 1), 2, none⟩ (.int .i64 y.metric)).setCell ⟨(W5.heap.size + 1), 3, none⟩ (.int .i64 y.scale)).setCell ⟨(W5.heap.size + 1), 4, none⟩ (.int .i64 y.cap)).setCell ⟨(W5.heap.size + 1), 5, none⟩ (.int .i64 y.fleet)).setCell ⟨(W5.heap.size + 1), 6, none⟩ (.slice au nu cu)).setCell ⟨(W5.heap.size + 1), 7, none⟩ (.slice am nm cm)).heap[k]? = W.heap[k]? := fun k hk => put8_other _ _ _ _ _ _ _ _ _ _ _ hk
  exact ⟨(hk _ (by omega)).trans h.ab, put8_own h.bb, h.na.but h.bb (put8_size ..) hk, hy.but h.bb (put8_size ..) hk, put8_below _ _ _ _ _ _ _ _ _ h.below (by omega)⟩
set_option maxRecDepth 100000 in
set_option maxHeartbeats 8000000 in
theorem Try.ExpressTurned_calls (H : Try.ExprC) (a : Int) (ha : 0 ≤ a) (ha2 : a ≤ 255) (x : Ins) (vn vm : Value) (c : Int) (hc : 0 ≤ c) (hc2 : c ≤ 255) (w : World) (hx : HasIns w vn vm x) :
    Calls Try.prog 5 #[.int .u8 a, insV x vn vm, .int .u8 c] w fun e w' => e = .returned (.bool true) ∧ Below w.heap.size w w' := by
  obtain ⟨f, hf⟩ : ∃ f : Int, f = 1 + a % 3 := ⟨_, rfl⟩
  have h1 : 1 ≤ f := by omega
  have h3 : f ≤ 3 := by omega
  have HF := Lib.hid hf
  clear hf
  have HX := Lib.hid hx
  have HSH := Lib.hid fun W => Try.shown12_calls H W
  cases hq : longE x with
  | true =>
    have HW : Hid (∀ W, HasIns W vn vm x → Calls Try.prog 7 #[insV x vn vm] W fun e w' => e = .returned (.bool true) ∧ Below W.heap.size W w') := fun W h => hq ▸ Try.long12_calls x vn vm W h
    obtain ⟨an, cn, rfl, _⟩ := hx.nodes.dat
    obtain ⟨am, cm, rfl, _⟩ := hx.matrix.dat
    unfold insV at HW ⊢
    clear hx hq H
    generalize x.nodes.length = L at *
    generalize x.matrix.length = M at *
    have HS0 := Lib.hid (ExS.new w x (.slice an L cn) (.slice am M cm))
    obtain ⟨c0, c1, c2, c3, c4, c5, c6, c7⟩ := HS0.out.box.cells
    go_enter Try.func5, Try.ntmps5
    go_upto_region 2 with (fail)
    rw [← HF.out]
    go_wp2_with (first | (go_at_call 7; (with_reducible refine (HW.out _ (HX.out.next HS0.out.below)).mono ?_); rintro e w1 ⟨rfl, hb1⟩; have HS1 := Lib.hid (HS0.out.next hb1)) | (go_at_call 8; (with_reducible refine (HSH.out _).mono ?_); rintro e w2 ⟨rfl, hb2⟩))
    go_ret
    exact ⟨rfl, HS1.out.below.trans (hb2.mono HS1.out.below.size)⟩
  | false =>
    have HW : Hid (∀ W, HasIns W vn vm x → Calls Try.prog 7 #[insV x vn vm] W fun e w' => e = .returned (.bool false) ∧ Below W.heap.size W w') := fun W h => hq ▸ Try.long12_calls x vn vm W h
    have hn := (longE_no hq).1
    have HLK := Lib.hid fun W h => H.lacks f x vn vm W h hn
    have HLA := Lib.hid fun y va W h k => H.lacks f y va vm W h k
    have HCA := Lib.hid fun y va W h k => H.can f y va vm W h k
    have HCX := Lib.hid fun W h => H.can f x vn vm W h hn
    have HTR := Lib.hid fun s y va W h k => Try.turned_calls f s h1 h3 y va vm W h k
    have hll : (lacksL f x).length ≤ 13 := lacksN_len f x 13
    have HCB : Hid (canB f x = decide ((lacksL f x).length = 0)) := rfl
    have HALL : Hid (∀ j, (lacksL f x).length ≤ j → canB f (turnsI f (lacksL f x) j x (lacksL f x).length) = true) := fun j h => turns_can h1 h3 h
    have HBUT : Hid (∀ j, j < (lacksL f x).length → lacksL f (turnsI f (lacksL f x) j x (lacksL f x).length) = [(lacksL f x).getD j 0]) := fun j h => turns_but h1 h3 h
    obtain ⟨an, cn, rfl, _⟩ := hx.nodes.dat
    obtain ⟨am, cm, rfl, _⟩ := hx.matrix.dat
    have HNL : Hid (∀ k j, (turnsI f (lacksL f x) j x k).nodes.length = x.nodes.length) := fun k j => turns_len f _ j x k
    have HML : Hid (∀ k j W, Below w.heap.size w W → HasNums W (.slice am x.matrix.length cm) (turnsI f (lacksL f x) j x k).matrix) := fun k j W h => by rw [turns_matrix]; exact hx.matrix.next h
    unfold insV at HW HLK HCX ⊢
    unfold insV at HLA HCA HTR
    clear hx hq H
    obtain ⟨L, hL⟩ : ∃ L, x.nodes.length = L := ⟨_, rfl⟩
    rw [hL] at HW HLK HCX HNL HX hn ⊢
    have HLE := Lib.hid hL
    clear hL
    generalize x.matrix.length = M at *
    generalize lacksL f x = K at *
    obtain ⟨n, hN⟩ : ∃ n, K.length = n := ⟨_, rfl⟩
    have HN := Lib.hid hN
    rw [hN] at HCB HALL HBUT hll
    clear hN
    have HS0 := Lib.hid (ExS.new w x (.slice an L cn) (.slice am M cm))
    obtain ⟨c0, c1, c2, c3, c4, c5, c6, c7⟩ := HS0.out.box.cells
    go_enter Try.func5, Try.ntmps5
    go_upto_region 2 with (fail)
    rw [← HF.out]
    go_upto_region 4 with (first | (go_at_call 7; (with_reducible refine (HW.out _ (HX.out.next HS0.out.below)).mono ?_); rintro e w1 ⟨rfl, hb1⟩; have HS1 := Lib.hid (HS0.out.next hb1)) | (go_at_call 8; (with_reducible refine (HSH.out _).mono ?_); rintro e w2 ⟨rfl, hb2⟩; have HS2 := Lib.hid (HS1.out.next hb2); clear c0 c1 c2 c3 c4 c5 c6 c7; obtain ⟨c0, c1, c2, c3, c4, c5, c6, c7⟩ := HS2.out.box.cells))
    go_upto_region 5 with (go_at_call 9; (with_reducible refine (HLK.out _ (HX.out.next HS2.out.below)).mono ?_); rintro e W5 ⟨v5, rfl, hv5, hb5⟩; have HS5 := Lib.hid (HS2.out.next hb5); have HV5 := Lib.hid hv5; obtain ⟨a5, k5, rfl⟩ := hv5.len; clear hv5 hb5 c0 c1 c2 c3 c4 c5 c6 c7; obtain ⟨c0, c1, c2, c3, c4, c5, c6, c7⟩ := HS5.out.box.cells)
    rw [HN.out] at HV5 ⊢
    clear HS0 HS1 HS2 hb1 hb2 HW HSH HLK
    by_cases h0 : n = 0
    · have hc : canB f x = true := by rw [HCB.out, decide_eq_true h0]
      have hb : ((n : Int) == 0) = true := by rw [h0]; rfl
      rw [hc] at HCX
      clear h0 hc HCB
      go_wp2_with (go_at_call 13; (with_reducible refine (HCX.out _ (HX.out.next HS5.out.below)).mono ?_); rintro e w9 ⟨rfl, hb9⟩; have HS9 := Lib.hid (HS5.out.next hb9); clear hb9 c0 c1 c2 c3 c4 c5 c6 c7)
      go_ret
      exact ⟨rfl, HS9.out.below⟩
    · have hb : ((n : Int) == 0) = false := beq_eq_false_iff_ne.2 (by omega)
      have hn1 : 1 ≤ n := by omega
      have hb2 : (0 : Int) < (n : Int) := by omega
      obtain ⟨j, hj⟩ : ∃ j : Nat, (j : Int) = c % (n : Int) := ⟨(c % (n : Int)).toNat, Int.toNat_of_nonneg (Int.emod_nonneg _ (by omega))⟩
      have hjn : j < n := by have := Int.emod_lt_of_pos c hb2; omega
      have HJ := Lib.hid hj
      clear hj h0 HCB HCX
      go_upto_region 8 with (fail)
      rw [← HJ.out]
      have hlt5 : w.heap.size < W5.heap.size := HS5.out.box.lt
      have HT0 := Lib.hid (tlS_start W5 x (.slice an L cn) (.slice am M cm) (by have h := (HX.out.next HS5.out.below).nodes; exact h))
      go_wp2_with (fail)
      clear c0 c1 c2 c3 c4 c5 c6 c7
      go_loopw [12] (fun i wr => ∃ k : Nat, k ≤ n ∧ i = .int .i64 (k : Int) ∧ ∃ aa ca ab cb, TlS W5 (turnsI f K n x k) (.slice aa L ca) (turnsI f K j x k) (.slice ab L cb) (.slice am M cm) wr) (fun i _ => n - (intOf i).toNat)
      case atStart => exact ⟨0, Nat.zero_le _, rfl, _, _, _, _, HT0.out⟩
      case round =>
        obtain ⟨k, hk, rfl, aa, ca, ab, cb, hS⟩ := hrel
        have hSZ := hS.below.size
        by_cases hlt : k < n
        · have hki : (k : Int) < (n : Int) := by omega
          obtain ⟨s, hs⟩ : ∃ s, K[k]? = some s := ⟨_, List.getElem?_eq_getElem (by rw [HN.out]; exact hlt)⟩
          obtain ⟨kb, ko, k6, e, hbw, hce⟩ := HV5.out.atx hs
          rw [HN.out] at e
          injection e with q1 q2 q3
          subst q1
          subst q3
          clear q2
          have HKC : Hid (∀ W, Below W5.heap.size W5 W → W.cell? ⟨kb, ko + k, none⟩ = some (.int .i64 s)) := fun W hW => (hW.cell (p := ⟨kb, ko + k, none⟩) hbw).trans (hce k s hs)
          have hg : K.getD k 0 = s := by simp [List.getD, hs]
          have HBW := Lib.hid HS5.out.below
          have HTM : Hid (∀ (y : Ins) (va : Value) W, HasNodes W va y.nodes → HasNums W (.slice am M cm) y.matrix → y.nodes.length = L → Calls Try.prog 15 #[.int .i64 f, .int .i64 s, .agg #[.string y.name, .int .i64 y.kind, .int .i64 y.metric, .int .i64 y.scale, .int .i64 y.cap, .int .i64 y.fleet, va, (.slice am M cm)]] W fun e w' => ∃ au cu, e = .returned (.agg #[.string (turn f s y).name, .int .i64 (turn f s y).kind, .int .i64 (turn f s y).metric, .int .i64 (turn f s y).scale, .int .i64 (turn f s y).cap, .int .i64 (turn f s y).fleet, (.slice au L cu), (.slice am M cm)]) ∧ HasNodes w' (.slice au L cu) (turn f s y).nodes ∧ Below W.heap.size W w') := fun y va W h1 h2 h3 => (HTR.out s y va W ⟨h1, h2⟩ (by omega)).mono fun e w' ⟨v', e1, e2, e3⟩ => by
            obtain ⟨au, cu, ev, _⟩ := e2.nodes.dat
            have el : (turn f s y).nodes.length = L := by show (y.nodes.map _).length = L; rw [List.length_map, h3]
            rw [el] at ev
            subst ev
            exact ⟨au, cu, e1, e2.nodes, e3⟩
          have HTab : Hid (∀ W, HasNodes W (.slice aa L ca) (turnsI f K n x k).nodes → Below W5.heap.size W5 W → Calls Try.prog 15 #[.int .i64 f, .int .i64 s, .agg #[.string (turnsI f K n x k).name, .int .i64 (turnsI f K n x k).kind, .int .i64 (turnsI f K n x k).metric, .int .i64 (turnsI f K n x k).scale, .int .i64 (turnsI f K n x k).cap, .int .i64 (turnsI f K n x k).fleet, (.slice aa L ca), (.slice am M cm)]] W fun e w' => ∃ au cu, e = .returned (.agg #[.string (turn f s (turnsI f K n x k)).name, .int .i64 (turn f s (turnsI f K n x k)).kind, .int .i64 (turn f s (turnsI f K n x k)).metric, .int .i64 (turn f s (turnsI f K n x k)).scale, .int .i64 (turn f s (turnsI f K n x k)).cap, .int .i64 (turn f s (turnsI f K n x k)).fleet, (.slice au L cu), (.slice am M cm)]) ∧ HasNodes w' (.slice au L cu) (turn f s (turnsI f K n x k)).nodes ∧ Below W.heap.size W w') := fun W h1 h2 => HTM.out _ _ W h1 (HML.out k n W (HBW.out.trans (h2.mono (by omega)))) (HNL.out k n)
          have HTbb : Hid (∀ W, HasNodes W (.slice ab L cb) (turnsI f K j x k).nodes → Below W5.heap.size W5 W → Calls Try.prog 15 #[.int .i64 f, .int .i64 s, .agg #[.string (turnsI f K j x k).name, .int .i64 (turnsI f K j x k).kind, .int .i64 (turnsI f K j x k).metric, .int .i64 (turnsI f K j x k).scale, .int .i64 (turnsI f K j x k).cap, .int .i64 (turnsI f K j x k).fleet, (.slice ab L cb), (.slice am M cm)]] W fun e w' => ∃ au cu, e = .returned (.agg #[.string (turn f s (turnsI f K j x k)).name, .int .i64 (turn f s (turnsI f K j x k)).kind, .int .i64 (turn f s (turnsI f K j x k)).metric, .int .i64 (turn f s (turnsI f K j x k)).scale, .int .i64 (turn f s (turnsI f K j x k)).cap, .int .i64 (turn f s (turnsI f K j x k)).fleet, (.slice au L cu), (.slice am M cm)]) ∧ HasNodes w' (.slice au L cu) (turn f s (turnsI f K j x k)).nodes ∧ Below W.heap.size W w') := fun W h1 h2 => HTM.out _ _ W h1 (HML.out k j W (HBW.out.trans (h2.mono (by omega)))) (HNL.out k j)
          have HY1 : Hid (turnsI f K n x (k + 1) = turn f s (turnsI f K n x k)) := by unfold Hid; conv => { lhs; unfold turnsI }; rw [if_neg (by omega), hg]
          have HY2 : Hid (k ≠ j → turnsI f K j x (k + 1) = turn f s (turnsI f K j x k)) := fun e => by conv => { lhs; unfold turnsI }; rw [if_neg e, hg]
          have HY3 : Hid (k = j → turnsI f K j x (k + 1) = turnsI f K j x k) := fun e => by conv => { lhs; unfold turnsI }; rw [if_pos e]
          have HS := Lib.hid hS
          clear hS hs hce hg hbw HX HLA HCA HTR HALL HBUT HML HNL HTM HT0 HS5 HV5 HBW
          generalize turnsI f K n x k = ya at *
          generalize turnsI f K j x k = yb at *
          generalize turn f s ya = y1 at *
          generalize turn f s yb = y2 at *
          go_upto_region 13 with (fail)
          have N0 := HS.out.drew
          have e6 := HKC.out _ N0.below
          refine wp_region_held_drew (S := (fun W => W.cell? ⟨kb, ko + k, none⟩ = some (.int .i64 s) ∧ True)) (by kernel_rfl) ⟨e6, trivial⟩ (fun hHeld0 => ?_)
          clear hHeld0
          generalize wr.drew = W4 at *
          refine wpAnyH_take (i := 0) (v := ?_) rfl (by kernel_rfl) (by kernel_rfl) (by kernel_rfl) (fun _ _ _ h => h) (Or.inl ⟨by kernel_rfl, ?_⟩) ⟨e6, trivial⟩ ?_
          rotate_left
          · (intro w0 hSw; (try dsimp only at hSw); obtain ⟨e60, e61⟩ := hSw; go_simp; try with_reducible rfl)
          try dsimp only [List.getElem_toArray, List.getElem_cons_succ, List.getElem_cons_zero, Act.put]
          try simp only [List.setIfInBounds_toArray, List.set_cons_zero, List.set_cons_succ]
          refine wpAnyH_take (i := 1) (v := ?_) rfl (by kernel_rfl) (by kernel_rfl) (by kernel_rfl) (fun _ _ _ h => h) (Or.inl ⟨by kernel_rfl, ?_⟩) ⟨e6, trivial⟩ ?_
          rotate_left
          · (intro w0 hSw; (try dsimp only at hSw); obtain ⟨e60, e61⟩ := hSw; go_simp; try with_reducible rfl)
          try dsimp only [List.getElem_toArray, List.getElem_cons_succ, List.getElem_cons_zero, Act.put]
          try simp only [List.setIfInBounds_toArray, List.set_cons_zero, List.set_cons_succ]
          refine wpAnyH_take (i := 2) (v := ?_) rfl (by kernel_rfl) (by kernel_rfl) (by kernel_rfl) (fun _ _ _ h => h) (Or.inl ⟨by kernel_rfl, ?_⟩) ⟨e6, trivial⟩ ?_
          rotate_left
          · (intro w0 hSw; (try dsimp only at hSw); obtain ⟨e60, e61⟩ := hSw; go_simp; try with_reducible rfl)
          try dsimp only [List.getElem_toArray, List.getElem_cons_succ, List.getElem_cons_zero, Act.put]
          try simp only [List.setIfInBounds_toArray, List.set_cons_zero, List.set_cons_succ]
          refine wpAnyH_take (i := 3) (v := ?_) rfl (by kernel_rfl) (by kernel_rfl) (by kernel_rfl) (fun _ _ _ h => h) (Or.inl ⟨by kernel_rfl, ?_⟩) ⟨e6, trivial⟩ ?_
          rotate_left
          · (intro w0 hSw; (try dsimp only at hSw); obtain ⟨e60, e61⟩ := hSw; go_simp; try with_reducible rfl)
          try dsimp only [List.getElem_toArray, List.getElem_cons_succ, List.getElem_cons_zero, Act.put]
          try simp only [List.setIfInBounds_toArray, List.set_cons_zero, List.set_cons_succ]
          refine wpAnyH_take (i := 4) (v := ?_) rfl (by kernel_rfl) (by kernel_rfl) (by kernel_rfl) (fun _ _ _ h => h) (Or.inl ⟨by kernel_rfl, ?_⟩) ⟨e6, trivial⟩ ?_
          rotate_left
          · (intro w0 hSw; (try dsimp only at hSw); obtain ⟨e60, e61⟩ := hSw; go_simp; try with_reducible rfl)
          try dsimp only [List.getElem_toArray, List.getElem_cons_succ, List.getElem_cons_zero, Act.put]
          try simp only [List.setIfInBounds_toArray, List.set_cons_zero, List.set_cons_succ]
          obtain ⟨d0, d1, d2, d3, d4, d5, d6, d7⟩ := N0.ab.cells
          refine wpAnyH_ready (rs := [5]) (by kernel_rfl) (by simp) (AllReadyH.cons rfl (fun KK hKK => ?_) AllReadyH.nil)
          go_simp
          refine hKK.out _ _ ⟨e6, trivial⟩ (fun _ => ?_)
          clear hKK KK d0 d1 d2 d3 d4 d5 d6 d7
          try dsimp only [List.getElem_toArray, List.getElem_cons_succ, List.getElem_cons_zero, Act.put]
          try simp only [List.setIfInBounds_toArray, List.set_cons_zero, List.set_cons_succ]
          refine wpAnyH_ready (rs := [6]) (by kernel_rfl) (by simp) (AllReadyH.cons rfl (fun KK hKK => ?_) AllReadyH.nil)
          go_simp
          go_at_call 15
          (with_reducible refine (HTab.out _ N0.na N0.below).mono ?_)
          rintro e w6 ⟨au, cu, rfl, hn6, hb6⟩
          have N6 := N0.next hb6
          have e7 := HKC.out _ N6.below
          refine hKK.out _ _ ⟨e7, trivial⟩ (fun _ => ?_)
          clear hKK KK
          try dsimp only [List.getElem_toArray, List.getElem_cons_succ, List.getElem_cons_zero, Act.put]
          try simp only [List.setIfInBounds_toArray, List.set_cons_zero, List.set_cons_succ]
          obtain ⟨d0, d1, d2, d3, d4, d5, d6, d7⟩ := N6.ab.cells
          have fz := N6.ab.frozenE
          have HD := Lib.hid (N6.setA hn6)
          have e8 := HKC.out _ HD.out.below
          refine wpAnyH_ready (rs := [7]) (by kernel_rfl) (by simp) (AllReadyH.cons rfl (fun KK hKK => ?_) AllReadyH.nil)
          go_simp
          refine hKK.out _ _ ⟨e8, trivial⟩ (fun _ => ?_)
          clear hKK KK
          refine wpAnyH_done (by kernel_rfl) ?_ _
          try dsimp only [List.getElem_toArray, List.getElem_cons_succ, List.getElem_cons_zero, Act.put]
          try simp only [List.setIfInBounds_toArray, List.set_cons_zero, List.set_cons_succ]
          clear e6 e7 e8 d0 d1 d2 d3 d4 d5 d6 d7 fz N0 N6 hn6 hb6
          generalize ((((((((w6.setCell ⟨W5.heap.size, 0, none⟩ (.string y1.name)).setCell ⟨W5.heap.size, 1, none⟩ (.int .i64 y1.kind)).setCell ⟨W5.heap.size, 2, none⟩ (.int .i64 y1.metric)).setCell ⟨W5.heap.size, 3, none⟩ (.int .i64 y1.scale)).setCell ⟨W5.heap.size, 4, none⟩ (.int .i64 y1.cap)).setCell ⟨W5.heap.size, 5, none⟩ (.int .i64 y1.fleet)).setCell ⟨W5.heap.size, 6, none⟩ (.slice au L cu)).setCell ⟨W5.heap.size, 7, none⟩ (.slice am M cm)) = WA at *
          have HA := HD
          clear HD HTab HS
          by_cases hkj : k = j
          · have b1 : ((k : Int) != (j : Int)) = false := by rw [hkj]; simp
            have HE := Lib.hid (HY3.out hkj)
            clear hkj HY2 HY3
            go_wp2_with (fail)
            go_roundw
            case rel => exact ⟨k + 1, by omega, by go_num, _, _, _, _, by rw [HY1.out, HE.out]; exact HA.out⟩
            case measure => simp [intOf]; omega
          · have b1 : ((k : Int) != (j : Int)) = true := bne_iff_ne.2 (by omega)
            have HE := Lib.hid (HY2.out hkj)
            clear hkj HY2 HY3
            go_upto_region 15 with (fail)
            have N0 := HA.out.drew
            have e6 := HKC.out _ N0.below
            refine wp_region_held_drew (S := (fun W => W.cell? ⟨kb, ko + k, none⟩ = some (.int .i64 s) ∧ True)) (by kernel_rfl) ⟨e6, trivial⟩ (fun hHeld0 => ?_)
            clear hHeld0
            generalize WA.drew = W4 at *
            refine wpAnyH_take (i := 0) (v := ?_) rfl (by kernel_rfl) (by kernel_rfl) (by kernel_rfl) (fun _ _ _ h => h) (Or.inl ⟨by kernel_rfl, ?_⟩) ⟨e6, trivial⟩ ?_
            rotate_left
            · (intro w0 hSw; (try dsimp only at hSw); obtain ⟨e60, e61⟩ := hSw; go_simp; try with_reducible rfl)
            try dsimp only [List.getElem_toArray, List.getElem_cons_succ, List.getElem_cons_zero, Act.put]
            try simp only [List.setIfInBounds_toArray, List.set_cons_zero, List.set_cons_succ]
            refine wpAnyH_take (i := 1) (v := ?_) rfl (by kernel_rfl) (by kernel_rfl) (by kernel_rfl) (fun _ _ _ h => h) (Or.inl ⟨by kernel_rfl, ?_⟩) ⟨e6, trivial⟩ ?_
            rotate_left
            · (intro w0 hSw; (try dsimp only at hSw); obtain ⟨e60, e61⟩ := hSw; go_simp; try with_reducible rfl)
            try dsimp only [List.getElem_toArray, List.getElem_cons_succ, List.getElem_cons_zero, Act.put]
            try simp only [List.setIfInBounds_toArray, List.set_cons_zero, List.set_cons_succ]
            refine wpAnyH_take (i := 2) (v := ?_) rfl (by kernel_rfl) (by kernel_rfl) (by kernel_rfl) (fun _ _ _ h => h) (Or.inl ⟨by kernel_rfl, ?_⟩) ⟨e6, trivial⟩ ?_
            rotate_left
            · (intro w0 hSw; (try dsimp only at hSw); obtain ⟨e60, e61⟩ := hSw; go_simp; try with_reducible rfl)
            try dsimp only [List.getElem_toArray, List.getElem_cons_succ, List.getElem_cons_zero, Act.put]
            try simp only [List.setIfInBounds_toArray, List.set_cons_zero, List.set_cons_succ]
            refine wpAnyH_take (i := 3) (v := ?_) rfl (by kernel_rfl) (by kernel_rfl) (by kernel_rfl) (fun _ _ _ h => h) (Or.inl ⟨by kernel_rfl, ?_⟩) ⟨e6, trivial⟩ ?_
            rotate_left
            · (intro w0 hSw; (try dsimp only at hSw); obtain ⟨e60, e61⟩ := hSw; go_simp; try with_reducible rfl)
            try dsimp only [List.getElem_toArray, List.getElem_cons_succ, List.getElem_cons_zero, Act.put]
            try simp only [List.setIfInBounds_toArray, List.set_cons_zero, List.set_cons_succ]
            refine wpAnyH_take (i := 4) (v := ?_) rfl (by kernel_rfl) (by kernel_rfl) (by kernel_rfl) (fun _ _ _ h => h) (Or.inl ⟨by kernel_rfl, ?_⟩) ⟨e6, trivial⟩ ?_
            rotate_left
            · (intro w0 hSw; (try dsimp only at hSw); obtain ⟨e60, e61⟩ := hSw; go_simp; try with_reducible rfl)
            try dsimp only [List.getElem_toArray, List.getElem_cons_succ, List.getElem_cons_zero, Act.put]
            try simp only [List.setIfInBounds_toArray, List.set_cons_zero, List.set_cons_succ]
            obtain ⟨d0, d1, d2, d3, d4, d5, d6, d7⟩ := N0.bb.cells
            refine wpAnyH_ready (rs := [5]) (by kernel_rfl) (by simp) (AllReadyH.cons rfl (fun KK hKK => ?_) AllReadyH.nil)
            go_simp
            refine hKK.out _ _ ⟨e6, trivial⟩ (fun _ => ?_)
            clear hKK KK d0 d1 d2 d3 d4 d5 d6 d7
            try dsimp only [List.getElem_toArray, List.getElem_cons_succ, List.getElem_cons_zero, Act.put]
            try simp only [List.setIfInBounds_toArray, List.set_cons_zero, List.set_cons_succ]
            refine wpAnyH_ready (rs := [6]) (by kernel_rfl) (by simp) (AllReadyH.cons rfl (fun KK hKK => ?_) AllReadyH.nil)
            go_simp
            go_at_call 15
            (with_reducible refine (HTbb.out _ N0.nb N0.below).mono ?_)
            rintro e w6 ⟨au, cu, rfl, hn6, hb6⟩
            have N6 := N0.next hb6
            have e7 := HKC.out _ N6.below
            refine hKK.out _ _ ⟨e7, trivial⟩ (fun _ => ?_)
            clear hKK KK
            try dsimp only [List.getElem_toArray, List.getElem_cons_succ, List.getElem_cons_zero, Act.put]
            try simp only [List.setIfInBounds_toArray, List.set_cons_zero, List.set_cons_succ]
            obtain ⟨d0, d1, d2, d3, d4, d5, d6, d7⟩ := N6.bb.cells
            have fz := N6.bb.frozenE
            have HD := Lib.hid (N6.setB hn6)
            have e8 := HKC.out _ HD.out.below
            refine wpAnyH_ready (rs := [7]) (by kernel_rfl) (by simp) (AllReadyH.cons rfl (fun KK hKK => ?_) AllReadyH.nil)
            go_simp
            refine hKK.out _ _ ⟨e8, trivial⟩ (fun _ => ?_)
            clear hKK KK
            refine wpAnyH_done (by kernel_rfl) ?_ _
            try dsimp only [List.getElem_toArray, List.getElem_cons_succ, List.getElem_cons_zero, Act.put]
            try simp only [List.setIfInBounds_toArray, List.set_cons_zero, List.set_cons_succ]
            clear e6 e7 e8 d0 d1 d2 d3 d4 d5 d6 d7 fz N0 N6 hn6 hb6
            generalize ((((((((w6.setCell ⟨(W5.heap.size + 1), 0, none⟩ (.string y2.name)).setCell ⟨(W5.heap.size + 1), 1, none⟩ (.int .i64 y2.kind)).setCell ⟨(W5.heap.size + 1), 2, none⟩ (.int .i64 y2.metric)).setCell ⟨(W5.heap.size + 1), 3, none⟩ (.int .i64 y2.scale)).setCell ⟨(W5.heap.size + 1), 4, none⟩ (.int .i64 y2.cap)).setCell ⟨(W5.heap.size + 1), 5, none⟩ (.int .i64 y2.fleet)).setCell ⟨(W5.heap.size + 1), 6, none⟩ (.slice au L cu)).setCell ⟨(W5.heap.size + 1), 7, none⟩ (.slice am M cm)) = WB at *
            clear HA HTbb
            go_wp2_with (fail)
            go_roundw
            case rel => exact ⟨k + 1, by omega, by go_num, _, _, _, _, by rw [HY1.out, HE.out]; exact HD.out⟩
            case measure => simp [intOf]; omega
        · obtain rfl : k = n := by omega
          have HCLA : Hid (∀ W, HasNodes W (.slice ab L cb) (turnsI f K j x k).nodes → Below W5.heap.size W5 W → Calls Try.prog 9 #[.int .i64 f, .agg #[.string (turnsI f K j x k).name, .int .i64 (turnsI f K j x k).kind, .int .i64 (turnsI f K j x k).metric, .int .i64 (turnsI f K j x k).scale, .int .i64 (turnsI f K j x k).cap, .int .i64 (turnsI f K j x k).fleet, (.slice ab L cb), (.slice am M cm)]] W fun e w' => ∃ a1 k1, e = .returned (.slice a1 1 k1) ∧ HasInts w' (.slice a1 1 k1) [K.getD j 0] ∧ Below W.heap.size W w') := fun W h1 h2 => (HLA.out _ _ W ⟨h1, HML.out k j W (HS5.out.below.trans (h2.mono (by omega)))⟩ (by rw [HNL.out]; exact hn)).mono fun e w' ⟨v', e1, e2, e3⟩ => by
            have hbt := HBUT.out j hjn
            rw [hbt] at e2
            obtain ⟨a1, k1, ev⟩ := e2.len
            subst ev
            exact ⟨a1, k1, e1, e2, e3⟩
          have HCCA : Hid (∀ W, HasNodes W (.slice aa L ca) (turnsI f K k x k).nodes → Below W5.heap.size W5 W → Calls Try.prog 13 #[.int .i64 f, .agg #[.string (turnsI f K k x k).name, .int .i64 (turnsI f K k x k).kind, .int .i64 (turnsI f K k x k).metric, .int .i64 (turnsI f K k x k).scale, .int .i64 (turnsI f K k x k).cap, .int .i64 (turnsI f K k x k).fleet, (.slice aa L ca), (.slice am M cm)]] W fun e w' => e = .returned (.bool true) ∧ Below W.heap.size W w') := fun W h1 h2 => by
            have h := HCA.out (turnsI f K k x k) _ W ⟨h1, HML.out k k W (HS5.out.below.trans (h2.mono (by omega)))⟩ (by rw [HNL.out]; exact hn)
            have hal := HALL.out k (Nat.le_refl _)
            rw [hal] at h
            exact h
          obtain ⟨s, hs⟩ : ∃ s, K[j]? = some s := ⟨_, List.getElem?_eq_getElem (by rw [HN.out]; exact hjn)⟩
          obtain ⟨kb, ko, k6, e, hbw, hce⟩ := HV5.out.atx hs
          rw [HN.out] at e
          injection e with q1 q2 q3
          subst q1
          subst q3
          clear q2
          have HKC : Hid (∀ W, Below W5.heap.size W5 W → W.cell? ⟨kb, ko + j, none⟩ = some (.int .i64 s)) := fun W hW => (hW.cell (p := ⟨kb, ko + j, none⟩) hbw).trans (hce j s hs)
          have hg : K.getD j 0 = s := by simp [List.getD, hs]
          rw [hg] at HCLA
          have HBW := Lib.hid HS5.out.below
          have HS := Lib.hid hS
          obtain ⟨d0, d1, d2, d3, d4, d5, d6, d7⟩ := HS.out.bb.cells
          have hjk : (j : Int) < (k : Int) := by omega
          clear hS hs hce hg hbw HX HLA HCA HTR HALL HBUT HML HNL HT0 HS5 HV5
          generalize turnsI f K k x k = ya at *
          generalize turnsI f K j x k = yb at *
          go_upto_region 17 with (go_at_call 9; (with_reducible refine (HCLA.out _ HS.out.nb HS.out.below).mono ?_); rintro e w7 ⟨a1, k1, rfl, hv7, hb7⟩; have HS7 := Lib.hid (HS.out.next hb7); have HV7 := Lib.hid hv7; clear hv7 hb7)
          obtain ⟨mb, mo, m6, e, hmw, hme⟩ := HV7.out.atx (k := 0) (s := s) rfl
          injection e with q1 q2 q3
          subst q1
          subst q3
          clear q2
          have HMC : Hid (∀ W, Below w7.heap.size w7 W → W.cell? ⟨mb, mo, none⟩ = some (.int .i64 s)) := fun W hW => (hW.cell (p := ⟨mb, mo, none⟩) hmw).trans (hme 0 s rfl)
          have N0 := HS7.out.drew
          have M0 : Below w7.heap.size w7 w7.drew := (Below.refl _ _).drew
          have e6 := HKC.out _ N0.below
          have e7 := HMC.out _ M0
          clear hmw hme HV7 HS d0 d1 d2 d3 d4 d5 d6 d7
          refine wp_region_held_drew (S := (fun W => W.cell? ⟨kb, ko + j, none⟩ = some (.int .i64 s) ∧ W.cell? ⟨mb, mo, none⟩ = some (.int .i64 s))) (by kernel_rfl) ⟨e6, e7⟩ (fun hHeld0 => ?_)
          clear hHeld0
          have hsz7 : w7.drew.heap.size = w7.heap.size := rfl
          generalize w7.drew = W4 at *
          obtain ⟨d0, d1, d2, d3, d4, d5, d6, d7⟩ := N0.ab.cells
          refine wpAnyH_take (i := 0) (v := ?_) rfl (by kernel_rfl) (by kernel_rfl) (by kernel_rfl) (fun _ _ _ h => h) (Or.inl ⟨by kernel_rfl, ?_⟩) ⟨e6, e7⟩ ?_
          rotate_left
          · (intro w0 hSw; (try dsimp only at hSw); obtain ⟨e60, e61⟩ := hSw; go_simp; try with_reducible rfl)
          try dsimp only [List.getElem_toArray, List.getElem_cons_succ, List.getElem_cons_zero, Act.put]
          try simp only [List.setIfInBounds_toArray, List.set_cons_zero, List.set_cons_succ]
          refine wpAnyH_ready (rs := [1]) (by kernel_rfl) (by simp) (AllReadyH.cons rfl (fun KK hKK => ?_) AllReadyH.nil)
          go_simp
          refine hKK.out _ _ ⟨e6, e7⟩ (fun _ => ?_)
          clear hKK KK
          try dsimp only [List.getElem_toArray, List.getElem_cons_succ, List.getElem_cons_zero, Act.put]
          try simp only [List.setIfInBounds_toArray, List.set_cons_zero, List.set_cons_succ]
          refine wpAnyH_ready (rs := [2]) (by kernel_rfl) (by simp) (AllReadyH.cons rfl (fun KK hKK => ?_) AllReadyH.nil)
          go_simp
          go_at_call 13
          (with_reducible refine (HCCA.out _ N0.na N0.below).mono ?_)
          rintro e w8 ⟨rfl, hb8⟩
          have N1 := N0.next hb8
          have e8 := HKC.out _ N1.below
          have e9 := HMC.out _ (M0.trans (hb8.mono (Nat.le_of_eq hsz7.symm)))
          have HBF : Hid (Below w.heap.size w w8) := HBW.out.trans (N1.below.mono (by omega))
          refine hKK.out _ _ ⟨e8, e9⟩ (fun _ => ?_)
          clear hKK KK
          try dsimp only [List.getElem_toArray, List.getElem_cons_succ, List.getElem_cons_zero, Act.put]
          try simp only [List.setIfInBounds_toArray, List.set_cons_zero, List.set_cons_succ]
          refine wpAnyH_take (i := 3) (v := ?_) rfl (by kernel_rfl) (by kernel_rfl) (by kernel_rfl) (fun _ _ _ h => h) (Or.inl ⟨by kernel_rfl, ?_⟩) ⟨e8, e9⟩ ?_
          rotate_left
          · (intro w0 hSw; (try dsimp only at hSw); obtain ⟨e60, e61⟩ := hSw; go_simp; try with_reducible rfl)
          try dsimp only [List.getElem_toArray, List.getElem_cons_succ, List.getElem_cons_zero, Act.put]
          try simp only [List.setIfInBounds_toArray, List.set_cons_zero, List.set_cons_succ]
          refine wpAnyH_take (i := 4) (v := ?_) rfl (by kernel_rfl) (by kernel_rfl) (by kernel_rfl) (fun _ _ _ h => h) (Or.inl ⟨by kernel_rfl, ?_⟩) ⟨e8, e9⟩ ?_
          rotate_left
          · (intro w0 hSw; (try dsimp only at hSw); obtain ⟨e60, e61⟩ := hSw; go_simp; try with_reducible rfl)
          try dsimp only [List.getElem_toArray, List.getElem_cons_succ, List.getElem_cons_zero, Act.put]
          try simp only [List.setIfInBounds_toArray, List.set_cons_zero, List.set_cons_succ]
          refine wpAnyH_take (i := 5) (v := ?_) rfl (by kernel_rfl) (by kernel_rfl) (by kernel_rfl) (fun _ _ _ h => h) (Or.inl ⟨by kernel_rfl, ?_⟩) ⟨e8, e9⟩ ?_
          rotate_left
          · (intro w0 hSw; (try dsimp only at hSw); obtain ⟨e60, e61⟩ := hSw; go_simp; try with_reducible rfl)
          try dsimp only [List.getElem_toArray, List.getElem_cons_succ, List.getElem_cons_zero, Act.put]
          try simp only [List.setIfInBounds_toArray, List.set_cons_zero, List.set_cons_succ]
          refine wpAnyH_take (i := 6) (v := .bool true) rfl (by kernel_rfl) (by kernel_rfl) (by kernel_rfl) (fun _ _ _ h => h) (Or.inl ⟨by kernel_rfl, ?_⟩) ⟨e8, e9⟩ ?_
          · (intro w0 hSw; (try dsimp only at hSw); obtain ⟨e60, e61⟩ := hSw; go_simp; try rfl)
          try dsimp only [List.getElem_toArray, List.getElem_cons_succ, List.getElem_cons_zero, Act.put]
          try simp only [List.setIfInBounds_toArray, List.set_cons_zero, List.set_cons_succ]
          refine wpAnyH_take (i := 7) (v := .bool true) rfl (by kernel_rfl) (by kernel_rfl) (by kernel_rfl) (fun _ _ _ h => h) (Or.inl ⟨by kernel_rfl, ?_⟩) ⟨e8, e9⟩ ?_
          · (intro w0 hSw; (try dsimp only at hSw); obtain ⟨e60, e61⟩ := hSw; go_simp; try rfl)
          try dsimp only [List.getElem_toArray, List.getElem_cons_succ, List.getElem_cons_zero, Act.put]
          try simp only [List.setIfInBounds_toArray, List.set_cons_zero, List.set_cons_succ]
          refine wpAnyH_take (i := 8) (v := ?_) rfl (by kernel_rfl) (by kernel_rfl) (by kernel_rfl) (fun _ _ _ h => h) (Or.inl ⟨by kernel_rfl, ?_⟩) ⟨e8, e9⟩ ?_
          rotate_left
          · (intro w0 hSw; (try dsimp only at hSw); obtain ⟨e60, e61⟩ := hSw; go_simp; try with_reducible rfl)
          try dsimp only [List.getElem_toArray, List.getElem_cons_succ, List.getElem_cons_zero, Act.put]
          try simp only [List.setIfInBounds_toArray, List.set_cons_zero, List.set_cons_succ]
          refine wpAnyH_take (i := 9) (v := ?_) rfl (by kernel_rfl) (by kernel_rfl) (by kernel_rfl) (fun _ _ _ h => h) (Or.inl ⟨by kernel_rfl, ?_⟩) ⟨e8, e9⟩ ?_
          rotate_left
          · (intro w0 hSw; (try dsimp only at hSw); obtain ⟨e60, e61⟩ := hSw; go_simp; try with_reducible rfl)
          try dsimp only [List.getElem_toArray, List.getElem_cons_succ, List.getElem_cons_zero, Act.put]
          try simp only [List.setIfInBounds_toArray, List.set_cons_zero, List.set_cons_succ]
          refine wpAnyH_take (i := 10) (v := ?_) rfl (by kernel_rfl) (by kernel_rfl) (by kernel_rfl) (fun _ _ _ h => h) (Or.inl ⟨by kernel_rfl, ?_⟩) ⟨e8, e9⟩ ?_
          rotate_left
          · (intro w0 hSw; (try dsimp only at hSw); obtain ⟨e60, e61⟩ := hSw; go_simp; try with_reducible rfl)
          try dsimp only [List.getElem_toArray, List.getElem_cons_succ, List.getElem_cons_zero, Act.put]
          try simp only [List.setIfInBounds_toArray, List.set_cons_zero, List.set_cons_succ]
          refine wpAnyH_take (i := 11) (v := ?_) rfl (by kernel_rfl) (by kernel_rfl) (by kernel_rfl) (fun _ _ _ h => h) (Or.inl ⟨by kernel_rfl, ?_⟩) ⟨e8, e9⟩ ?_
          rotate_left
          · (intro w0 hSw; (try dsimp only at hSw); obtain ⟨e60, e61⟩ := hSw; go_simp; try with_reducible rfl)
          try dsimp only [List.getElem_toArray, List.getElem_cons_succ, List.getElem_cons_zero, Act.put]
          try simp only [List.setIfInBounds_toArray, List.set_cons_zero, List.set_cons_succ]
          refine wpAnyH_take (i := 12) (v := ?_) rfl (by kernel_rfl) (by kernel_rfl) (by kernel_rfl) (fun _ _ _ h => h) (Or.inl ⟨by kernel_rfl, ?_⟩) ⟨e8, e9⟩ ?_
          rotate_left
          · (intro w0 hSw; (try dsimp only at hSw); obtain ⟨e60, e61⟩ := hSw; go_simp; try with_reducible rfl)
          try dsimp only [List.getElem_toArray, List.getElem_cons_succ, List.getElem_cons_zero, Act.put]
          try simp only [List.setIfInBounds_toArray, List.set_cons_zero, List.set_cons_succ]
          refine wpAnyH_take (i := 13) (v := ?_) rfl (by kernel_rfl) (by kernel_rfl) (by kernel_rfl) (fun _ _ _ h => h) (Or.inl ⟨by kernel_rfl, ?_⟩) ⟨e8, e9⟩ ?_
          rotate_left
          · (intro w0 hSw; (try dsimp only at hSw); obtain ⟨e60, e61⟩ := hSw; go_simp; try with_reducible rfl)
          try dsimp only [List.getElem_toArray, List.getElem_cons_succ, List.getElem_cons_zero, Act.put]
          try simp only [List.setIfInBounds_toArray, List.set_cons_zero, List.set_cons_succ]
          refine wpAnyH_take (i := 14) (v := ?_) rfl (by kernel_rfl) (by kernel_rfl) (by kernel_rfl) (fun _ _ _ h => h) (Or.inl ⟨by kernel_rfl, ?_⟩) ⟨e8, e9⟩ ?_
          rotate_left
          · (intro w0 hSw; (try dsimp only at hSw); obtain ⟨e60, e61⟩ := hSw; go_simp; try with_reducible rfl)
          try dsimp only [List.getElem_toArray, List.getElem_cons_succ, List.getElem_cons_zero, Act.put]
          try simp only [List.setIfInBounds_toArray, List.set_cons_zero, List.set_cons_succ]
          refine wpAnyH_take (i := 15) (v := ?_) rfl (by kernel_rfl) (by kernel_rfl) (by kernel_rfl) (fun _ _ _ h => h) (Or.inl ⟨by kernel_rfl, ?_⟩) ⟨e8, e9⟩ ?_
          rotate_left
          · (intro w0 hSw; (try dsimp only at hSw); obtain ⟨e60, e61⟩ := hSw; go_simp; try with_reducible rfl)
          try dsimp only [List.getElem_toArray, List.getElem_cons_succ, List.getElem_cons_zero, Act.put]
          try simp only [List.setIfInBounds_toArray, List.set_cons_zero, List.set_cons_succ]
          refine wpAnyH_take (i := 16) (v := .bool true) rfl (by kernel_rfl) (by kernel_rfl) (by kernel_rfl) (fun _ _ _ h => h) (Or.inl ⟨by kernel_rfl, ?_⟩) ⟨e8, e9⟩ ?_
          · (intro w0 hSw; (try dsimp only at hSw); obtain ⟨e60, e61⟩ := hSw; go_simp; try simp)
          try dsimp only [List.getElem_toArray, List.getElem_cons_succ, List.getElem_cons_zero, Act.put]
          try simp only [List.setIfInBounds_toArray, List.set_cons_zero, List.set_cons_succ]
          refine wpAnyH_take (i := 17) (v := .bool true) rfl (by kernel_rfl) (by kernel_rfl) (by kernel_rfl) (fun _ _ _ h => h) (Or.inl ⟨by kernel_rfl, ?_⟩) ⟨e8, e9⟩ ?_
          · (intro w0 hSw; (try dsimp only at hSw); obtain ⟨e60, e61⟩ := hSw; go_simp; try rfl)
          try dsimp only [List.getElem_toArray, List.getElem_cons_succ, List.getElem_cons_zero, Act.put]
          try simp only [List.setIfInBounds_toArray, List.set_cons_zero, List.set_cons_succ]
          refine wpAnyH_take (i := 18) (v := ?_) rfl (by kernel_rfl) (by kernel_rfl) (by kernel_rfl) (fun _ _ _ h => h) (Or.inl ⟨by kernel_rfl, ?_⟩) ⟨e8, e9⟩ ?_
          rotate_left
          · (intro w0 hSw; (try dsimp only at hSw); obtain ⟨e60, e61⟩ := hSw; go_simp; try with_reducible rfl)
          try dsimp only [List.getElem_toArray, List.getElem_cons_succ, List.getElem_cons_zero, Act.put]
          try simp only [List.setIfInBounds_toArray, List.set_cons_zero, List.set_cons_succ]
          refine wpAnyH_done (by kernel_rfl) ?_ _
          try dsimp only [List.getElem_toArray, List.getElem_cons_succ, List.getElem_cons_zero, Act.put]
          try simp only [List.setIfInBounds_toArray, List.set_cons_zero, List.set_cons_succ]
          go_wp2
          go_ret
          exact ⟨rfl, HBF.out⟩
end Go.Proofs
