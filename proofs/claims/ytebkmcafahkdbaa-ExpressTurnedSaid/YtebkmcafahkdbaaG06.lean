/- The document's own answers of layer 12: whether a node lacks, which fields lack. Conditions: none but what is told of each. -/
import Derived.Test.YtebkmcafahkdbaaG04
import Derived.Test.YtebkmcafahkdbaaG05
import Derived.Test.YtebkmcafahkdbaaG01
import Derived.Deep.Cut
import Derived.Deep.CutRange
namespace Go.Expr
open Go.Canon
theorem some_step {g : Int} {l : List Nd} {k : Nat} {d : Nd} (h : l[k]? = some d) : someQ g (l.take (k + 1)) = (someQ g (l.take k) || nodeQ g d) := by
  unfold someQ
  rw [List.take_add_one, h, List.any_append]; simp
end Go.Expr
namespace Go.Proofs
open Go.RowKit Go.Shelf Go.Canon Go.Expr
attribute [local go_sem] Oper.semAt_some
set_option linter.unusedSimpArgs false
/-- An instance of the document's own in its box. -/
structure RbS (w : World) (x : Ins) (vn vm : Value) (W : World) : Prop where
  box : InsBox W w.heap.size x vn vm 33
  below : Below w.heap.size w W
theorem RbS.next {w W W' : World} {x : Ins} {vn vm : Value} (h : RbS w x vn vm W) (hb : Below W.heap.size W W') : RbS w x vn vm W' := ⟨h.box.next hb, h.below.trans (hb.mono h.below.size)⟩
theorem RbS.alloc {w W : World} {x : Ins} {vn vm : Value} (h : RbS w x vn vm W) (o : Obj) : RbS w x vn vm (W.alloc o) := h.next (fbelow_box W o)
theorem RbS.new (w : World) (x : Ins) (vn vm : Value) : RbS w x vn vm (w.alloc (.cells #[.string x.name, .int .i64 x.kind, .int .i64 x.metric, .int .i64 x.scale, .int .i64 x.cap, .int .i64 x.fleet, vn, vm] 33)) := ⟨InsBox.new w x vn vm 33, fbelow_box w _⟩
/-- A node in a box. -/
def ENd (W : World) (D : Nat) (d : Nd) (t : TypeId) : Prop := W.heap[D]? = some (.cells #[Value.int .i64 d.x, .int .i64 d.y, .int .i64 d.demand, .int .i64 d.ready, .int .i64 d.due, .int .i64 d.service, .int .i64 d.mate] t)
theorem ENd.new (w : World) (d : Nd) (t : TypeId) : ENd (w.alloc (.cells #[Value.int .i64 d.x, .int .i64 d.y, .int .i64 d.demand, .int .i64 d.ready, .int .i64 d.due, .int .i64 d.service, .int .i64 d.mate] t)) w.heap.size d t := World.alloc_heap_new w _
theorem ENd.c {W : World} {D : Nat} {d : Nd} {t : TypeId} (h : ENd W D d t) (j : Nat) : W.cell? ⟨D, j, none⟩ = (#[Value.int .i64 d.x, .int .i64 d.y, .int .i64 d.demand, .int .i64 d.ready, .int .i64 d.due, .int .i64 d.service, .int .i64 d.mate] : Array Value)[j]? := by
  unfold World.cell?; unfold ENd at h; rw [h]; rfl
theorem ENd.cells {W : World} {D : Nat} {d : Nd} {t : TypeId} (h : ENd W D d t) : W.cell? ⟨D, 2, none⟩ = some (.int .i64 d.demand) ∧ W.cell? ⟨D, 3, none⟩ = some (.int .i64 d.ready) ∧ W.cell? ⟨D, 4, none⟩ = some (.int .i64 d.due) ∧ W.cell? ⟨D, 5, none⟩ = some (.int .i64 d.service) ∧ W.cell? ⟨D, 6, none⟩ = some (.int .i64 d.mate) := ⟨h.c 2, h.c 3, h.c 4, h.c 5, h.c 6⟩
set_option maxRecDepth 100000 in
set_option maxHeartbeats 2000000 in
theorem Try.some12_calls (x : Ins) (vn vm : Value) (g : Int) (w : World) (hx : HasIns w vn vm x) (hl : x.nodes.length ≤ 1000000) :
    Calls Try.prog 46 #[insV x vn vm, .int .i64 g] w fun e w' => e = .returned (.bool (someQ g x.nodes)) ∧ Below w.heap.size w w' := by
  have HX := Lib.hid hx
  obtain ⟨an, cn, rfl, hn⟩ := hx.nodes.dat
  obtain ⟨am, cm, rfl, _⟩ := hx.matrix.dat
  unfold insV
  obtain ⟨L, hL⟩ : ∃ L, x.nodes.length = L := ⟨_, rfl⟩
  have HL := Lib.hid hL
  have HNN := Lib.hid hn
  rw [hL] at hl HX ⊢
  clear hx hL hn
  generalize x.matrix.length = M at *
  have HS0 := Lib.hid (RbS.new w x (.slice an L cn) (.slice am M cm))
  go_enter Try.func46, Try.ntmps46
  go_wp2
  go_loopw [5] (fun i wr => ∃ k : Nat, k ≤ L ∧ i = .int .i64 (k : Int) ∧ someQ g (x.nodes.take k) = false ∧ RbS w x (.slice an L cn) (.slice am M cm) wr) (fun i _ => L - (intOf i).toNat)
  case atStart => exact ⟨0, Nat.zero_le _, rfl, rfl, HS0.out⟩
  case round =>
    obtain ⟨k, hk, rfl, hq, hS⟩ := hrel
    have HS := Lib.hid hS
    have HQ := Lib.hid hq
    have c6 := hS.box.c 6
    clear hS HS0 hq
    by_cases hlt : k < L
    · obtain ⟨d, hd⟩ : ∃ d, x.nodes[k]? = some d := ⟨_, List.getElem?_eq_getElem (by have := HL.out; omega)⟩
      have hki : (k : Int) < (L : Int) := by omega
      rcases HNN.out with h0 | ⟨b, off, rfl, hN⟩
      · rw [h0] at hd; simp at hd
      have hbw := hN.1
      obtain ⟨z0, z1, z2, z3, z4, z5, z6⟩ := (hN.2 k d hd).below HS.out.below hbw
      have HST : Hid (someQ g (x.nodes.take (k + 1)) = nodeQ g d) := by unfold Hid; rw [some_step hd, HQ.out]; rfl
      have HALL : Hid (nodeQ g d = true → someQ g x.nodes = true) := fun h => by
        unfold someQ; rw [List.any_eq_true]; exact ⟨d, List.mem_of_getElem? hd, h⟩
      clear hd hN HQ
      go_upto_region 5 with (fail)
      obtain ⟨W1, hW1⟩ : ∃ W1, W1 = wr.alloc (.cells #[Value.int .i64 d.x, .int .i64 d.y, .int .i64 d.demand, .int .i64 d.ready, .int .i64 d.due, .int .i64 d.service, .int .i64 d.mate] 48) := ⟨_, rfl⟩
      obtain ⟨D, hD⟩ : ∃ D, D = wr.heap.size := ⟨_, rfl⟩
      have HB1 : Hid (ENd W1 D d 48) := by rw [hW1, hD]; exact ENd.new wr d 48
      have HS1 : Hid (RbS w x (.slice (some ⟨b, off, none⟩) L cn) (.slice am M cm) W1) := by rw [hW1]; exact HS.out.alloc _
      obtain ⟨d2, d3, d4, d5, d6⟩ := HB1.out.cells
      rw [← hW1, ← hD]
      clear hW1 hD HS c6 z0 z1 z2 z3 z4 z5 z6 HB1 HNN HX
      go_cut [57] from 19 to 57 (fun t wx => t = .bool (nodeQ g d) ∧ W1 = wx)
      case first =>
        by_cases g1 : g = 10
        · subst g1
          by_cases h : d.demand < 0
          · have E : Hid (nodeQ 10 d = true) := by unfold Hid nodeQ; simp [h]
            go_wp2
            go_meet
            exact ⟨by rw [E.out], rfl⟩
          · have E : Hid (nodeQ 10 d = false) := by unfold Hid nodeQ; simp [h]
            go_wp2
            go_meet
            exact ⟨by rw [E.out], rfl⟩
        · by_cases g2 : g = 11
          · subst g2
            by_cases h : d.ready = 0
            · have hb : (d.ready != 0) = false := by rw [h]; rfl
              by_cases h2 : d.due = 0
              · have hb2 : (d.due != 0) = false := by rw [h2]; rfl
                have E : Hid (nodeQ 11 d = false) := by unfold Hid nodeQ; simp [h, h2]
                clear h h2
                go_wp2
                go_meet
                exact ⟨by rw [E.out], rfl⟩
              · have hb2 : (d.due != 0) = true := bne_iff_ne.2 h2
                have E : Hid (nodeQ 11 d = true) := by unfold Hid nodeQ; simp [h, h2]
                clear h h2
                go_wp2
                go_meet
                exact ⟨by rw [E.out], rfl⟩
            · have hb : (d.ready != 0) = true := bne_iff_ne.2 h
              have E : Hid (nodeQ 11 d = true) := by unfold Hid nodeQ; simp [h]
              clear h
              go_wp2
              go_meet
              exact ⟨by rw [E.out], rfl⟩
          · by_cases g3 : g = 12
            · subst g3
              by_cases h : d.service = 0
              · have hb : (d.service != 0) = false := by rw [h]; rfl
                have E : Hid (nodeQ 12 d = false) := by unfold Hid nodeQ; simp [h]
                clear h
                go_wp2
                go_meet
                exact ⟨by rw [E.out], rfl⟩
              · have hb : (d.service != 0) = true := bne_iff_ne.2 h
                have E : Hid (nodeQ 12 d = true) := by unfold Hid nodeQ; simp [h]
                clear h
                go_wp2
                go_meet
                exact ⟨by rw [E.out], rfl⟩
            · by_cases g4 : g = 13
              · subst g4
                by_cases h : d.mate = 0
                · have hb : (d.mate != 0) = false := by rw [h]; rfl
                  have E : Hid (nodeQ 13 d = false) := by unfold Hid nodeQ; simp [h]
                  clear h
                  go_wp2
                  go_meet
                  exact ⟨by rw [E.out], rfl⟩
                · have hb : (d.mate != 0) = true := bne_iff_ne.2 h
                  have E : Hid (nodeQ 13 d = true) := by unfold Hid nodeQ; simp [h]
                  clear h
                  go_wp2
                  go_meet
                  exact ⟨by rw [E.out], rfl⟩
              · have b1 : (g == 10) = false := beq_eq_false_iff_ne.2 g1
                have b2 : (g == 11) = false := beq_eq_false_iff_ne.2 g2
                have b3 : (g == 12) = false := beq_eq_false_iff_ne.2 g3
                have b4 : (g == 13) = false := beq_eq_false_iff_ne.2 g4
                have E : Hid (nodeQ g d = false) := by unfold Hid nodeQ; simp [g1, g2, g3, g4]
                clear g1 g2 g3 g4
                go_wp2
                go_meet
                exact ⟨by rw [E.out], rfl⟩
      case rest =>
      obtain ⟨rfl, rfl⟩ := hcut
      cases hq : nodeQ g d with
      | true =>
        have e : someQ g x.nodes = true := HALL.out hq
        have E := Lib.hid e
        clear HALL HST hq e
        go_wp2
        exact ⟨rfl, _, results_tmp rfl _ _ _, by rw [E.out]; rfl, HS1.out.below⟩
      | false =>
        rw [hq] at HST
        clear HALL hq
        go_wp2
        go_roundw
        case rel => exact ⟨k + 1, by omega, by go_num, HST.out, HS1.out⟩
        case measure => simp [intOf]; omega
    · obtain rfl : k = L := by omega
      have e : x.nodes.take k = x.nodes := List.take_of_length_le (by have := HL.out; omega)
      have hq := HQ.out
      rw [e] at hq
      have E := Lib.hid hq
      clear e hq HQ
      go_wp2
      exact ⟨rfl, _, results_tmp rfl _ _ _, by rw [E.out]; rfl, HS.out.below⟩
set_option maxRecDepth 100000 in
set_option maxHeartbeats 4000000 in
theorem Try.lacks12_calls (x : Ins) (vn vm : Value) (f g : Int) (w : World) (hx : HasIns w vn vm x) (hl : x.nodes.length ≤ 1000000) :
    Calls Try.prog 29 #[.int .i64 f, .int .i64 g, insV x vn vm] w fun e w' => e = .returned (.bool (lackQ f g x)) ∧ Below w.heap.size w w' := by
  have HX := Lib.hid hx
  have HSM := Lib.hid fun g W h => Try.some12_calls x vn vm g W h hl
  obtain ⟨an, cn, rfl, _⟩ := hx.nodes.dat
  obtain ⟨am, cm, rfl, _⟩ := hx.matrix.dat
  unfold insV at HSM ⊢
  clear hx hl
  generalize x.nodes.length = L at *
  generalize x.matrix.length = M at *
  have HS0 := Lib.hid (RbS.new w x (.slice an L cn) (.slice am M cm))
  obtain ⟨c0, c1, c2, c3, c4, c5, c6, c7⟩ := HS0.out.box.cells
  go_enter Try.func29, Try.ntmps29
  by_cases h1 : f < 1
  · have E : Hid (lackQ f g x = true) := by unfold Hid lackQ; rw [if_pos (.inl h1)]
    go_wp2
    go_ret
    exact ⟨(by rw [E.out]; try rfl), HS0.out.below⟩
  · by_cases h2 : 5 < f
    · have E : Hid (lackQ f g x = true) := by unfold Hid lackQ; rw [if_pos (.inr h2)]
      go_wp2
      go_ret
      exact ⟨(by rw [E.out]; try rfl), HS0.out.below⟩
    · by_cases h3 : 3 < f
      · have E : Hid (lackQ f g x = false) := by unfold Hid lackQ; rw [if_neg (by omega), if_pos h3]
        go_wp2
        go_ret
        exact ⟨(by rw [E.out]; try rfl), HS0.out.below⟩
      · have h4 : f = 1 ∨ f = 2 ∨ f = 3 := by omega
        clear h1 h2 h3
        rcases h4 with rfl | rfl | rfl
        · by_cases e1 : g = 1
          · subst e1
            have E : Hid (lackQ 1 1 x = false) := by unfold Hid lackQ; simp []
            go_wp2
            go_ret
            exact ⟨(by rw [E.out]; try rfl), HS0.out.below⟩
          · have b1 : (g == 1) = false := beq_eq_false_iff_ne.2 e1
            by_cases e2 : g = 2
            · subst e2
              by_cases h : x.kind = 1
              · have hb : (x.kind != 1) = false := by rw [h]; rfl
                have E : Hid (lackQ 1 2 x = false) := by unfold Hid lackQ; simp [h]
                clear h
                go_wp2
                go_ret
                exact ⟨(by rw [E.out]; try rfl), HS0.out.below⟩
              · have hb : (x.kind != 1) = true := bne_iff_ne.2 h
                by_cases h2 : x.kind = 2
                · have hb2 : (x.kind != 2) = false := by rw [h2]; rfl
                  have E : Hid (lackQ 1 2 x = false) := by unfold Hid lackQ; simp [h, h2]
                  clear h h2
                  go_wp2
                  go_ret
                  exact ⟨(by rw [E.out]; try rfl), HS0.out.below⟩
                · have hb2 : (x.kind != 2) = true := bne_iff_ne.2 h2
                  have E : Hid (lackQ 1 2 x = true) := by unfold Hid lackQ; simp [h, h2]
                  clear h h2
                  go_wp2
                  go_ret
                  exact ⟨(by rw [E.out]; try rfl), HS0.out.below⟩
            · have b2 : (g == 2) = false := beq_eq_false_iff_ne.2 e2
              by_cases e3 : g = 3
              · subst e3
                by_cases h : x.metric < 0
                · have E : Hid (lackQ 1 3 x = true) := by unfold Hid lackQ; simp [h]
                  go_wp2
                  go_ret
                  exact ⟨(by rw [E.out]; try rfl), HS0.out.below⟩
                · by_cases h2 : 5 < x.metric
                  · have E : Hid (lackQ 1 3 x = true) := by unfold Hid lackQ; simp [h, h2]
                    go_wp2
                    go_ret
                    exact ⟨(by rw [E.out]; try rfl), HS0.out.below⟩
                  · have E : Hid (lackQ 1 3 x = false) := by unfold Hid lackQ; simp [h, h2]
                    go_wp2
                    go_ret
                    exact ⟨(by rw [E.out]; try rfl), HS0.out.below⟩
              · have b3 : (g == 3) = false := beq_eq_false_iff_ne.2 e3
                by_cases e4 : g = 4
                · subst e4
                  have E : Hid (lackQ 1 4 x = false) := by unfold Hid lackQ; simp []
                  go_wp2
                  go_ret
                  exact ⟨(by rw [E.out]; try rfl), HS0.out.below⟩
                · have b4 : (g == 4) = false := beq_eq_false_iff_ne.2 e4
                  by_cases e6 : g = 6
                  · subst e6
                    by_cases h : x.fleet = 0
                    · have hb : (x.fleet != 0) = false := by rw [h]; rfl
                      have E : Hid (lackQ 1 6 x = false) := by unfold Hid lackQ; simp [h]
                      clear h
                      go_wp2
                      go_ret
                      exact ⟨(by rw [E.out]; try rfl), HS0.out.below⟩
                    · have hb : (x.fleet != 0) = true := bne_iff_ne.2 h
                      have E : Hid (lackQ 1 6 x = true) := by unfold Hid lackQ; simp [h]
                      clear h
                      go_wp2
                      go_ret
                      exact ⟨(by rw [E.out]; try rfl), HS0.out.below⟩
                  · have b6 : (g == 6) = false := beq_eq_false_iff_ne.2 e6
                    by_cases e10 : g = 10
                    · subst e10
                      have E : Hid (lackQ 1 10 x = someQ 10 x.nodes) := by unfold Hid lackQ; simp []
                      go_wp2_with (go_at_call 46; (with_reducible refine (HSM.out _ _ (HX.out.next HS0.out.below)).mono ?_); rintro e w1 ⟨rfl, hb1⟩)
                      go_ret
                      exact ⟨(by rw [E.out]; try rfl), HS0.out.below.trans (hb1.mono HS0.out.below.size)⟩
                    · have b10 : (g == 10) = false := beq_eq_false_iff_ne.2 e10
                      by_cases e13 : g = 13
                      · subst e13
                        have E : Hid (lackQ 1 13 x = someQ 13 x.nodes) := by unfold Hid lackQ; simp []
                        go_wp2_with (go_at_call 46; (with_reducible refine (HSM.out _ _ (HX.out.next HS0.out.below)).mono ?_); rintro e w1 ⟨rfl, hb1⟩)
                        go_ret
                        exact ⟨(by rw [E.out]; try rfl), HS0.out.below.trans (hb1.mono HS0.out.below.size)⟩
                      · have b13 : (g == 13) = false := beq_eq_false_iff_ne.2 e13
                        by_cases e11 : g = 11
                        · subst e11
                          have E : Hid (lackQ 1 11 x = someQ 11 x.nodes) := by unfold Hid lackQ; simp []
                          go_wp2_with (go_at_call 46; (with_reducible refine (HSM.out _ _ (HX.out.next HS0.out.below)).mono ?_); rintro e w1 ⟨rfl, hb1⟩)
                          go_ret
                          exact ⟨(by rw [E.out]; try rfl), HS0.out.below.trans (hb1.mono HS0.out.below.size)⟩
                        · have b11 : (g == 11) = false := beq_eq_false_iff_ne.2 e11
                          by_cases e12 : g = 12
                          · subst e12
                            have E : Hid (lackQ 1 12 x = someQ 12 x.nodes) := by unfold Hid lackQ; simp []
                            go_wp2_with (go_at_call 46; (with_reducible refine (HSM.out _ _ (HX.out.next HS0.out.below)).mono ?_); rintro e w1 ⟨rfl, hb1⟩)
                            go_ret
                            exact ⟨(by rw [E.out]; try rfl), HS0.out.below.trans (hb1.mono HS0.out.below.size)⟩
                          · have b12 : (g == 12) = false := beq_eq_false_iff_ne.2 e12
                            have E : Hid (lackQ 1 g x = false) := by unfold Hid lackQ; simp [e1, e2, e3, e4, e6, e10, e13, e11, e12]
                            clear e1 e2 e3 e4 e6 e10 e13 e11 e12
                            go_wp2
                            go_ret
                            exact ⟨(by rw [E.out]; try rfl), HS0.out.below⟩
        · by_cases e1 : g = 1
          · subst e1
            have E : Hid (lackQ 2 1 x = false) := by unfold Hid lackQ; simp []
            go_wp2
            go_ret
            exact ⟨(by rw [E.out]; try rfl), HS0.out.below⟩
          · have b1 : (g == 1) = false := beq_eq_false_iff_ne.2 e1
            by_cases e2 : g = 2
            · subst e2
              by_cases h : x.kind = 3
              · have hb : (x.kind != 3) = false := by rw [h]; rfl
                have E : Hid (lackQ 2 2 x = false) := by unfold Hid lackQ; simp [h]
                clear h
                go_wp2
                go_ret
                exact ⟨(by rw [E.out]; try rfl), HS0.out.below⟩
              · have hb : (x.kind != 3) = true := bne_iff_ne.2 h
                have E : Hid (lackQ 2 2 x = true) := by unfold Hid lackQ; simp [h]
                clear h
                go_wp2
                go_ret
                exact ⟨(by rw [E.out]; try rfl), HS0.out.below⟩
            · have b2 : (g == 2) = false := beq_eq_false_iff_ne.2 e2
              by_cases e3 : g = 3
              · subst e3
                by_cases h : x.metric = 6
                · have hb : (x.metric != 6) = false := by rw [h]; rfl
                  have E : Hid (lackQ 2 3 x = false) := by unfold Hid lackQ; simp [h]
                  clear h
                  go_wp2
                  go_ret
                  exact ⟨(by rw [E.out]; try rfl), HS0.out.below⟩
                · have hb : (x.metric != 6) = true := bne_iff_ne.2 h
                  have E : Hid (lackQ 2 3 x = true) := by unfold Hid lackQ; simp [h]
                  clear h
                  go_wp2
                  go_ret
                  exact ⟨(by rw [E.out]; try rfl), HS0.out.below⟩
              · have b3 : (g == 3) = false := beq_eq_false_iff_ne.2 e3
                by_cases e4 : g = 4
                · subst e4
                  have E : Hid (lackQ 2 4 x = false) := by unfold Hid lackQ; simp []
                  go_wp2
                  go_ret
                  exact ⟨(by rw [E.out]; try rfl), HS0.out.below⟩
                · have b4 : (g == 4) = false := beq_eq_false_iff_ne.2 e4
                  by_cases e6 : g = 6
                  · subst e6
                    by_cases h : x.fleet < 1
                    · have E : Hid (lackQ 2 6 x = true) := by unfold Hid lackQ; simp [h]
                      go_wp2
                      go_ret
                      exact ⟨(by rw [E.out]; try rfl), HS0.out.below⟩
                    · have E : Hid (lackQ 2 6 x = false) := by unfold Hid lackQ; simp [h]
                      go_wp2
                      go_ret
                      exact ⟨(by rw [E.out]; try rfl), HS0.out.below⟩
                  · have b6 : (g == 6) = false := beq_eq_false_iff_ne.2 e6
                    by_cases e10 : g = 10
                    · subst e10
                      have E : Hid (lackQ 2 10 x = someQ 10 x.nodes) := by unfold Hid lackQ; simp []
                      go_wp2_with (go_at_call 46; (with_reducible refine (HSM.out _ _ (HX.out.next HS0.out.below)).mono ?_); rintro e w1 ⟨rfl, hb1⟩)
                      go_ret
                      exact ⟨(by rw [E.out]; try rfl), HS0.out.below.trans (hb1.mono HS0.out.below.size)⟩
                    · have b10 : (g == 10) = false := beq_eq_false_iff_ne.2 e10
                      by_cases e13 : g = 13
                      · subst e13
                        have E : Hid (lackQ 2 13 x = someQ 13 x.nodes) := by unfold Hid lackQ; simp []
                        go_wp2_with (go_at_call 46; (with_reducible refine (HSM.out _ _ (HX.out.next HS0.out.below)).mono ?_); rintro e w1 ⟨rfl, hb1⟩)
                        go_ret
                        exact ⟨(by rw [E.out]; try rfl), HS0.out.below.trans (hb1.mono HS0.out.below.size)⟩
                      · have b13 : (g == 13) = false := beq_eq_false_iff_ne.2 e13
                        by_cases e11 : g = 11
                        · subst e11
                          have E : Hid (lackQ 2 11 x = false) := by unfold Hid lackQ; simp []
                          go_wp2
                          go_ret
                          exact ⟨(by rw [E.out]; try rfl), HS0.out.below⟩
                        · have b11 : (g == 11) = false := beq_eq_false_iff_ne.2 e11
                          by_cases e12 : g = 12
                          · subst e12
                            have E : Hid (lackQ 2 12 x = false) := by unfold Hid lackQ; simp []
                            go_wp2
                            go_ret
                            exact ⟨(by rw [E.out]; try rfl), HS0.out.below⟩
                          · have b12 : (g == 12) = false := beq_eq_false_iff_ne.2 e12
                            have E : Hid (lackQ 2 g x = false) := by unfold Hid lackQ; simp [e1, e2, e3, e4, e6, e10, e13, e11, e12]
                            clear e1 e2 e3 e4 e6 e10 e13 e11 e12
                            go_wp2
                            go_ret
                            exact ⟨(by rw [E.out]; try rfl), HS0.out.below⟩
        · by_cases e1 : g = 1
          · subst e1
            by_cases h : x.name.toList = [108, 105, 108, 105, 109]
            · have hb : (x.name.toList == [108, 105, 108, 105, 109]) = true := beq_iff_eq.2 h
              have E : Hid (lackQ 3 1 x = false) := by unfold Hid lackQ; simp [h]
              clear h
              go_wp2
              go_ret
              exact ⟨(by rw [E.out]; try rfl), HS0.out.below⟩
            · have hb : (x.name.toList == [108, 105, 108, 105, 109]) = false := beq_eq_false_iff_ne.2 h
              have E : Hid (lackQ 3 1 x = true) := by unfold Hid lackQ; simp [h]
              clear h
              go_wp2
              go_ret
              exact ⟨(by rw [E.out]; try rfl), HS0.out.below⟩
          · have b1 : (g == 1) = false := beq_eq_false_iff_ne.2 e1
            by_cases e2 : g = 2
            · subst e2
              by_cases h : x.kind = 4
              · have hb : (x.kind != 4) = false := by rw [h]; rfl
                have E : Hid (lackQ 3 2 x = false) := by unfold Hid lackQ; simp [h]
                clear h
                go_wp2
                go_ret
                exact ⟨(by rw [E.out]; try rfl), HS0.out.below⟩
              · have hb : (x.kind != 4) = true := bne_iff_ne.2 h
                have E : Hid (lackQ 3 2 x = true) := by unfold Hid lackQ; simp [h]
                clear h
                go_wp2
                go_ret
                exact ⟨(by rw [E.out]; try rfl), HS0.out.below⟩
            · have b2 : (g == 2) = false := beq_eq_false_iff_ne.2 e2
              by_cases e3 : g = 3
              · subst e3
                by_cases h : x.metric = 6
                · have hb : (x.metric != 6) = false := by rw [h]; rfl
                  have E : Hid (lackQ 3 3 x = false) := by unfold Hid lackQ; simp [h]
                  clear h
                  go_wp2
                  go_ret
                  exact ⟨(by rw [E.out]; try rfl), HS0.out.below⟩
                · have hb : (x.metric != 6) = true := bne_iff_ne.2 h
                  have E : Hid (lackQ 3 3 x = true) := by unfold Hid lackQ; simp [h]
                  clear h
                  go_wp2
                  go_ret
                  exact ⟨(by rw [E.out]; try rfl), HS0.out.below⟩
              · have b3 : (g == 3) = false := beq_eq_false_iff_ne.2 e3
                by_cases e4 : g = 4
                · subst e4
                  by_cases h : x.scale = 0
                  · have hb : (x.scale != 0) = false := by rw [h]; rfl
                    have E : Hid (lackQ 3 4 x = false) := by unfold Hid lackQ; simp [h]
                    clear h
                    go_wp2
                    go_ret
                    exact ⟨(by rw [E.out]; try rfl), HS0.out.below⟩
                  · have hb : (x.scale != 0) = true := bne_iff_ne.2 h
                    have E : Hid (lackQ 3 4 x = true) := by unfold Hid lackQ; simp [h]
                    clear h
                    go_wp2
                    go_ret
                    exact ⟨(by rw [E.out]; try rfl), HS0.out.below⟩
                · have b4 : (g == 4) = false := beq_eq_false_iff_ne.2 e4
                  by_cases e6 : g = 6
                  · subst e6
                    by_cases h : x.fleet < 1
                    · have E : Hid (lackQ 3 6 x = true) := by unfold Hid lackQ; simp [h]
                      go_wp2
                      go_ret
                      exact ⟨(by rw [E.out]; try rfl), HS0.out.below⟩
                    · have E : Hid (lackQ 3 6 x = false) := by unfold Hid lackQ; simp [h]
                      go_wp2
                      go_ret
                      exact ⟨(by rw [E.out]; try rfl), HS0.out.below⟩
                  · have b6 : (g == 6) = false := beq_eq_false_iff_ne.2 e6
                    by_cases e10 : g = 10
                    · subst e10
                      have E : Hid (lackQ 3 10 x = false) := by unfold Hid lackQ; simp []
                      go_wp2
                      go_ret
                      exact ⟨(by rw [E.out]; try rfl), HS0.out.below⟩
                    · have b10 : (g == 10) = false := beq_eq_false_iff_ne.2 e10
                      by_cases e13 : g = 13
                      · subst e13
                        have E : Hid (lackQ 3 13 x = false) := by unfold Hid lackQ; simp []
                        go_wp2
                        go_ret
                        exact ⟨(by rw [E.out]; try rfl), HS0.out.below⟩
                      · have b13 : (g == 13) = false := beq_eq_false_iff_ne.2 e13
                        by_cases e11 : g = 11
                        · subst e11
                          have E : Hid (lackQ 3 11 x = false) := by unfold Hid lackQ; simp []
                          go_wp2
                          go_ret
                          exact ⟨(by rw [E.out]; try rfl), HS0.out.below⟩
                        · have b11 : (g == 11) = false := beq_eq_false_iff_ne.2 e11
                          by_cases e12 : g = 12
                          · subst e12
                            have E : Hid (lackQ 3 12 x = false) := by unfold Hid lackQ; simp []
                            go_wp2
                            go_ret
                            exact ⟨(by rw [E.out]; try rfl), HS0.out.below⟩
                          · have b12 : (g == 12) = false := beq_eq_false_iff_ne.2 e12
                            have E : Hid (lackQ 3 g x = false) := by unfold Hid lackQ; simp [e1, e2, e3, e4, e6, e10, e13, e11, e12]
                            clear e1 e2 e3 e4 e6 e10 e13 e11 e12
                            go_wp2
                            go_ret
                            exact ⟨(by rw [E.out]; try rfl), HS0.out.below⟩
end Go.Proofs
