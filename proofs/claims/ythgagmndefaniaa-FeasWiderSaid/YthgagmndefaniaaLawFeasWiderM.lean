/- The law FeasWider, as a contract. Conditions: what package feas answers. -/
import Derived.Test.YthgagmndefaniaaG10
import Derived.Test.YthgagmndefaniaaG29
import Derived.Test.YthgagmndefaniaaG05
import Derived.Deep.DrawnRows
import Derived.Deep.RegionHeld3
import Derived.Deep.Cut
import Derived.Deep.CutRange
namespace Go.Proofs
open Go.RowKit Go.Shelf Go.Canon Go.Feas Go.Plans
attribute [local go_sem] Oper.semAt_some
attribute [local go_sem ↓] Go.wp_at_zero Go.wp_at_succ
theorem Try.info55w : (Try.prog.info? 55).map (fun i => (i.zero, i.size, i.bytes)) = some (some (.agg #[.int .i64 0, .int .i64 0, .int .i64 0, .int .i64 0, .int .i64 0, .int .i64 0, .int .i64 0]), 7, 56) := by kernel_rfl
theorem LwS.under {w W W' : World} {x : Ins} {vn vm vp : Value} {B : Nat} (h : LwS w x vn vm vp W) (hb : Below B W W') (hB : w.heap.size + 2 ≤ B) : LwS w x vn vm vp W' :=
  ⟨h.box.below hb (by omega), ⟨(hb.cell (p := ⟨w.heap.size + 1, 0, none⟩) (by show w.heap.size + 1 < B; omega)).trans h.pbox.1, Nat.lt_of_lt_of_le h.pbox.2 hb.size⟩, h.below.trans (hb.mono (by omega))⟩
theorem LwS.two {w W : World} {x : Ins} {vn vm vp : Value} (h : LwS w x vn vm vp W) : w.heap.size + 2 ≤ W.heap.size := h.pbox.2
theorem InsBox.frozen {W : World} {B : Nat} {x : Ins} {vn vm : Value} {t : TypeId} (h : InsBox W B x vn vm t) (j : Nat) : W.frozen? ⟨B, j, none⟩ = false := by
  unfold InsBox at h; unfold World.frozen?; rw [h]; rfl
theorem InsBox.put {W : World} {B j : Nat} {x y : Ins} {vn vm un : Value} {t : TypeId} {u : Value} (h : InsBox W B x vn vm t)
    (he : (#[Value.string x.name, .int .i64 x.kind, .int .i64 x.metric, .int .i64 x.scale, .int .i64 x.cap, .int .i64 x.fleet, vn, vm] : Array Value).setIfInBounds j u = #[Value.string y.name, .int .i64 y.kind, .int .i64 y.metric, .int .i64 y.scale, .int .i64 y.cap, .int .i64 y.fleet, un, vm]) : InsBox (W.setCell ⟨B, j, none⟩ u) B y un vm t := by
  unfold InsBox at h ⊢
  rw [← he]
  simp [World.setCell, Array.getElem?_modify, h]
/-- Beside the instance and the plan: another instance in its box, with a row of nodes of its own. -/
structure WdS (w : World) (x : Ins) (vn vm vp : Value) (bq : Nat) (y : Ins) (vr : Value) (n : Nat) (l : List Nd) (W : World) : Prop where
  b : LwS w x vn vm vp W
  qb : InsBox W bq y vr vm 25
  row : W.ownsRow (bq + 1) 55 7 vr n (l.flatMap ndC)
  lt : w.heap.size + 2 ≤ bq
theorem WdS.next {w W W' : World} {x y : Ins} {vn vm vp vr : Value} {bq n : Nat} {l : List Nd} (h : WdS w x vn vm vp bq y vr n l W) (hb : Below W.heap.size W W') : WdS w x vn vm vp bq y vr n l W' := ⟨h.b.next hb, h.qb.next hb, fowns_next h.row hb, h.lt⟩
theorem WdS.drew {w W : World} {x y : Ins} {vn vm vp vr : Value} {bq n : Nat} {l : List Nd} (h : WdS w x vn vm vp bq y vr n l W) : WdS w x vn vm vp bq y vr n l W.drew := ⟨h.b.drew, h.qb, h.row, h.lt⟩
theorem wdS_made {w V W : World} {x : Ins} {vn vm vp vr : Value} {bq n : Nat} (h : LwS w x vn vm vp V) (hq : InsBox V bq x vn vm 25) (hV : V.heap.size = bq + 1) (hlt : w.heap.size + 2 ≤ bq)
    (hown : W.ownsRow V.heap.size 55 7 vr n (x.nodes.flatMap ndC)) (hB : Below V.heap.size V W) : WdS w x vn vm vp bq x vr n x.nodes (W.setCell ⟨bq, 6, none⟩ vr) := by
  have h1 := hq.next hB
  refine ⟨(h.next hB).under ((Below.refl bq W).setCell (Nat.le_refl _) _) hlt, h1.put rfl, ?_, hlt⟩
  rw [hV] at hown
  exact cowns_set hown (Nat.lt_succ_self _) _
/-- One node's end is later. -/
theorem WdS.due {w W : World} {x y : Ins} {vn vm vp : Value} {bq g rc n k : Nat} {l : List Nd} {d : Nd} (h : WdS w x vn vm vp bq y (.slice (some ⟨g, 0, none⟩) n rc) n l W) (hn : 0 < n) (hk : l[k]? = some d) (u : Int) : WdS w x vn vm vp bq y (.slice (some ⟨g, 0, none⟩) n rc) n (l.set k { d with due := u }) (W.setCell ⟨g, k * 7 + 4, none⟩ (.int .i64 u)) := by
  obtain ⟨g', e, hg⟩ := owns_some h.row hn
  obtain rfl : g = g' := by injection e with a; injection a
  have hb : Below (bq + 1) W (W.setCell ⟨g, k * 7 + 4, none⟩ (.int .i64 u)) := (Below.refl _ _).setCell hg _
  have r := (h.row.stored (k * 7 + 4) (.int .i64 u)).1
  rw [flat_due u hk] at r
  exact ⟨h.b.under hb (by have := h.lt; omega), h.qb.below hb (Nat.lt_succ_self _), r, h.lt⟩
/-- One of the limits is greater. -/
theorem WdS.limit {w W : World} {x y z : Ins} {vn vm vp vr : Value} {bq n j : Nat} {l : List Nd} {u : Value} (h : WdS w x vn vm vp bq y vr n l W)
    (he : (#[Value.string y.name, .int .i64 y.kind, .int .i64 y.metric, .int .i64 y.scale, .int .i64 y.cap, .int .i64 y.fleet, vr, vm] : Array Value).setIfInBounds j u = #[Value.string z.name, .int .i64 z.kind, .int .i64 z.metric, .int .i64 z.scale, .int .i64 z.cap, .int .i64 z.fleet, vr, vm]) : WdS w x vn vm vp bq z vr n l (W.setCell ⟨bq, j, none⟩ u) :=
  ⟨h.b.under ((Below.refl bq W).setCell (Nat.le_refl _) _) h.lt, h.qb.put he, cowns_set h.row (Nat.lt_succ_self _) _, h.lt⟩
theorem WdS.ins {w W : World} {x y : Ins} {vn vm vp vr : Value} {bq n : Nat} {l : List Nd} (h : WdS w x vn vm vp bq y vr n l W) (hx : HasIns w vn vm x) (hn : l.length = n) (hm : y.matrix = x.matrix) : HasIns W vr vm { y with nodes := l } := by
  have r := h.row
  rw [← hn] at r
  exact ⟨nodes_of_owns r, by show HasNums W vm y.matrix; rw [hm]; exact hx.matrix.next h.b.below⟩
def wlN (x : Ins) (m : Int) (k : Nat) : List Nd := if big x = true then wideL m x.nodes k else x.nodes
theorem wlN_step {x : Ins} {m : Int} {k : Nat} {d : Nd} (h : (wlN x m k)[k]? = some d) (hb : x.kind = 3 ∨ x.kind = 4) : wlN x m (k + 1) = (wlN x m k).set k { d with due := min (d.due + m) 100000000 } := by
  have hbb : big x = true := decide_eq_true hb
  unfold wlN at h ⊢
  rw [if_pos hbb] at h
  rw [if_pos hbb, if_pos hbb, wideL]
  rw [wideL_get, if_neg (Nat.lt_irrefl k)] at h
  rw [h]
  rfl
theorem due_cell {W : World} {B g rc n k : Nat} {l : List Nd} {d : Nd} (h : W.ownsRow B 55 7 (.slice (some ⟨g, 0, none⟩) n rc) n (l.flatMap ndC)) (hk : l[k]? = some d) : W.cell? ⟨g, k * 7 + 4, none⟩ = some (.int .i64 d.due) := by
  have e : (l.flatMap ndC)[k * 7 + 4]? = some (.int .i64 d.due) := by
    rw [flat_get (f := ndC) (s := 7) (fun _ => rfl) hk (by omega)]; rfl
  have h2 := h.cells (g := g) rfl (k * 7 + 4) _ e
  rw [Addr.add_lit, Nat.zero_add] at h2
  exact h2
set_option maxRecDepth 100000 in
set_option maxHeartbeats 4000000 in
theorem Try.FeasWider_calls (H : Try.FeasC) (x : Ins) (vn vm v : Value) (rr : Rts) (mo : Int) (hb0 : 0 ≤ mo) (hb1 : mo ≤ 65535) (w : World) (hx : HasIns w vn vm x) (hv : HasRts w v rr) :
    Calls Try.prog 7 #[insV x vn vm, planV v, .int .u16 mo] w fun e w' => e = .returned (.bool true) ∧ Below w.heap.size w w' := by
  have HX := Lib.hid hx
  have HV := Lib.hid hv
  have HSH := Lib.hid fun W => Try.fshown_calls H W
  cases hq : wellQ x with
  | false =>
    have HW : Hid (∀ W, HasIns W vn vm x → Calls Try.prog 11 #[insV x vn vm] W fun e w' => e = .returned (.bool false) ∧ Below W.heap.size W w') := fun W h => hq ▸ Try.lwell_calls x vn vm W h
    obtain ⟨an, cn, rfl, _⟩ := hx.nodes.dat
    obtain ⟨am, cm, rfl, _⟩ := hx.matrix.dat
    obtain ⟨ap, cp, rfl⟩ := hv.len
    unfold insV at HW ⊢
    unfold planV
    clear hx hv hq H
    generalize x.nodes.length = L at *
    generalize x.matrix.length = M at *
    generalize rr.length = N at *
    have HS0 := Lib.hid (lwS_start w x (.slice an L cn) (.slice am M cm) (.slice ap N cp))
    go_enter Try.func7, Try.ntmps7
    go_wp2_with (first | (go_at_call 11; (with_reducible refine (HW.out _ (HX.out.next HS0.out.below)).mono ?_); rintro e w1 ⟨rfl, hb1⟩; have HS1 := Lib.hid (HS0.out.next hb1)) | (go_at_call 13; (with_reducible refine (HSH.out _).mono ?_); rintro e w2 ⟨rfl, hb2⟩))
    go_ret
    exact ⟨rfl, HS1.out.below.trans (hb2.mono HS1.out.below.size)⟩
  | true =>
    have HW : Hid (∀ W, HasIns W vn vm x → Calls Try.prog 11 #[insV x vn vm] W fun e w' => e = .returned (.bool true) ∧ Below W.heap.size W w') := fun W h => hq ▸ Try.lwell_calls x vn vm W h
    have HQ := Lib.hid (wellQ_iff.1 hq)
    cases hlo : longQ rr with
    | true =>
      have HL : Hid (∀ W, HasRts W v rr → Calls Try.prog 12 #[planV v] W fun e w' => e = .returned (.bool true) ∧ Below W.heap.size W w') := fun W h => hlo ▸ Try.feasLong_calls v rr W h
      obtain ⟨an, cn, rfl, _⟩ := hx.nodes.dat
      obtain ⟨am, cm, rfl, _⟩ := hx.matrix.dat
      obtain ⟨ap, cp, rfl⟩ := hv.len
      unfold insV at HW ⊢
      unfold planV at HL ⊢
      clear hx hv hq hlo H HQ
      generalize x.nodes.length = L at *
      generalize x.matrix.length = M at *
      generalize rr.length = N at *
      have HS0 := Lib.hid (lwS_start w x (.slice an L cn) (.slice am M cm) (.slice ap N cp))
      go_enter Try.func7, Try.ntmps7
      go_wp2_with (first | (go_at_call 11; (with_reducible refine (HW.out _ (HX.out.next HS0.out.below)).mono ?_); rintro e w1 ⟨rfl, hb1⟩; have HS1 := Lib.hid (HS0.out.next hb1); obtain ⟨c0, c1, c2, c3, c4, c5, c6, c7, hp0, -⟩ := lwS_S HS1.out) | (go_at_call 12; (with_reducible refine (HL.out _ (HV.out.next HS1.out.below)).mono ?_); rintro e w3 ⟨rfl, hb3⟩; have HS3 := Lib.hid (HS1.out.next hb3)) | (go_at_call 13; (with_reducible refine (HSH.out _).mono ?_); rintro e w2 ⟨rfl, hb2⟩))
      go_ret
      exact ⟨rfl, HS3.out.below.trans (hb2.mono HS3.out.below.size)⟩
    | false =>
      have HL : Hid (∀ W, HasRts W v rr → Calls Try.prog 12 #[planV v] W fun e w' => e = .returned (.bool false) ∧ Below W.heap.size W w') := fun W h => hlo ▸ Try.feasLong_calls v rr W h
      have HFI := Lib.hid (fine_of HQ.out.well)
      have hN2 := (longQ_fits hlo).1
      have hmn := (longQ_fits hlo).2
      have HLN := Lib.hid (longQ_fits hlo)
      obtain ⟨nb, no, cn, rfl, hncap, hnmax, hnat⟩ := hx.all HFI.out.lo
      obtain ⟨am, cm, rfl, _⟩ := hx.matrix.dat
      obtain ⟨ap, cp, rfl⟩ := hv.len
      have HNT := Lib.hid hnat
      have HRL : Hid (∀ q : Rts, q = rr → q.length ≤ 500 ∧ many q ≤ 2200) := fun q e => by rw [e]; exact ⟨by omega, by omega⟩
      have HLO : Hid (1 ≤ x.nodes.length ∧ x.nodes.length ≤ 400) := ⟨HFI.out.lo, HFI.out.hi⟩
      obtain ⟨i0, hi, hz0, hz1, hz2⟩ := info_parts Try.info55w
      have HI0 := Lib.hid hi
      have HFL : Hid ((x.nodes.flatMap ndC).length = x.nodes.length * 7) := flat_len (f := ndC) (s := 7) (fun _ => rfl) _
      have HWN : Hid (∀ W, Below w.heap.size w W → ∀ (j : Nat) (u : Value), (x.nodes.flatMap ndC)[j]? = some u → W.cell? ((⟨nb, no, none⟩ : Addr).add j) = some u) := fun W hW => nodes_news (hnat.below hW hnat.1)
      unfold insV at HW ⊢
      unfold planV at HL ⊢
      clear hx hv hq hlo hi hnat
      obtain ⟨L, hL⟩ : ∃ L, x.nodes.length = L := ⟨_, rfl⟩
      rw [hL] at HW HX HLO HFL hncap ⊢
      have HLE := Lib.hid hL
      clear hL
      generalize x.matrix.length = M at *
      generalize rr.length = N at *
      have HS0 := Lib.hid (lwS_start w x (.slice (some ⟨nb, no, none⟩) L cn) (.slice am M cm) (.slice ap N cp))
      go_enter Try.func7, Try.ntmps7
      go_upto_region 3 with (first | (go_at_call 11; (with_reducible refine (HW.out _ (HX.out.next HS0.out.below)).mono ?_); rintro e w1 ⟨rfl, hb1⟩; have HS1 := Lib.hid (HS0.out.next hb1); obtain ⟨c0, c1, c2, c3, c4, c5, c6, c7, hp0, -⟩ := lwS_S HS1.out) | (go_at_call 12; (with_reducible refine (HL.out _ (HV.out.next HS1.out.below)).mono ?_); rintro e w3 ⟨rfl, hb3⟩; have HS3 := Lib.hid (HS1.out.next hb3); clear c0 c1 c2 c3 c4 c5 c6 c7 hp0; obtain ⟨c0, c1, c2, c3, c4, c5, c6, c7, hp0, -⟩ := lwS_S HS3.out) | (go_at_call 13; (with_reducible refine (HSH.out _).mono ?_); rintro e w2 ⟨rfl, hb2⟩; have HS4 := Lib.hid (HS3.out.next hb2); clear c0 c1 c2 c3 c4 c5 c6 c7 hp0; obtain ⟨c0, c1, c2, c3, c4, c5, c6, c7, hp0, -⟩ := lwS_S HS4.out))
      clear HS0 HS1 HS3 HW HL HSH hb1 hb2 hb3
      obtain ⟨hL1, hL4⟩ := HLO.out
      clear c0 c1 c2 c3 c4 c5 c6 c7 hp0
      obtain ⟨bq, hbq⟩ : ∃ bq, bq = w2.heap.size := ⟨_, rfl⟩
      have HV4 := Lib.hid (HS4.out.alloc (.cells #[.string x.name, .int .i64 x.kind, .int .i64 x.metric, .int .i64 x.scale, .int .i64 x.cap, .int .i64 x.fleet, (.slice (some ⟨nb, no, none⟩) L cn), (.slice am M cm)] 25))
      have HQ4 : Hid (InsBox (w2.alloc (.cells #[.string x.name, .int .i64 x.kind, .int .i64 x.metric, .int .i64 x.scale, .int .i64 x.cap, .int .i64 x.fleet, (.slice (some ⟨nb, no, none⟩) L cn), (.slice am M cm)] 25)) w2.heap.size x (.slice (some ⟨nb, no, none⟩) L cn) (.slice am M cm) 25) := InsBox.new w2 x _ _ 25
      have HVS : Hid ((w2.alloc (.cells #[.string x.name, .int .i64 x.kind, .int .i64 x.metric, .int .i64 x.scale, .int .i64 x.cap, .int .i64 x.fleet, (.slice (some ⟨nb, no, none⟩) L cn), (.slice am M cm)] 25)).heap.size = w2.heap.size + 1) := by unfold Hid; simp
      have HT2 := Lib.hid HS4.out.two
      obtain ⟨c0, c1, c2, c3, c4, c5, c6, c7, -⟩ := lwS_S HS4.out
      have z6 : ∀ o o', ((w2.alloc o).alloc o').cell? ⟨w.heap.size, 6, none⟩ = some (.slice (some ⟨nb, no, none⟩) L cn) := fun o o' => ((HS4.out.alloc o).alloc o').box.c 6
      have hml : 0 + L ≤ maxLen := by unfold maxLen; omega
      have hml2 : (0 + L) * 56 ≤ 140737488355328 := by omega
      clear hbq HS4
      go_wp2_with (at_builtin; refine wpList_append_own _ rfl _ _ 22 rfl (w2.alloc (.cells #[.string x.name, .int .i64 x.kind, .int .i64 x.metric, .int .i64 x.scale, .int .i64 x.cap, .int .i64 x.fleet, (.slice (some ⟨nb, no, none⟩) L cn), (.slice am M cm)] 25)).heap.size 55 i0 (.agg #[.int .i64 0, .int .i64 0, .int .i64 0, .int .i64 0, .int .i64 0, .int .i64 0, .int .i64 0]) 7 56 Try.underlying22 HI0.out hz0 hz1 hz2 rfl (by decide) _ 0 [] rfl (by rw [← HVS.out]; exact cowns_empty (w2.alloc (.cells #[.string x.name, .int .i64 x.kind, .int .i64 x.metric, .int .i64 x.scale, .int .i64 x.cap, .int .i64 x.fleet, (.slice (some ⟨nb, no, none⟩) L cn), (.slice am M cm)] 25)) 55 7) ⟨nb, no, none⟩ L cn (x.nodes.flatMap ndC) rfl HFL.out (HWN.out _ (HV4.out.below.alloc HV4.out.below.size _)) (nd_one _) hml hml2 (fbelow_box _ _).size ?_; intro v' w5 hown' hgrow _; have hB5 := (fbelow_box (w2.alloc (.cells #[.string x.name, .int .i64 x.kind, .int .i64 x.metric, .int .i64 x.scale, .int .i64 x.cap, .int .i64 x.fleet, (.slice (some ⟨nb, no, none⟩) L cn), (.slice am M cm)] 25)) (.cells #[] 55)).grown hgrow (fbelow_box _ _).size (fun k e => by (have e1 : (w2.alloc (.cells #[.string x.name, .int .i64 x.kind, .int .i64 x.metric, .int .i64 x.scale, .int .i64 x.cap, .int .i64 x.fleet, (.slice (some ⟨nb, no, none⟩) L cn), (.slice am M cm)] 25)).heap.size = k := by rw [HVS.out]; exact Option.some.inj e); omega); have e6 := (HQ4.out.next hB5).c 6; have f6 := (HQ4.out.next hB5).frozen 6; have R : Hid (WdS w x (.slice (some ⟨nb, no, none⟩) L cn) (.slice am M cm) (.slice ap N cp) w2.heap.size x v' L x.nodes (w5.setCell ⟨w2.heap.size, 6, none⟩ v')) := wdS_made HV4.out HQ4.out HVS.out HT2.out (by rw [Nat.zero_add] at hown'; exact hown') hB5; obtain ⟨ao, rc, rfl⟩ := owns_dat hown')
      have hR := R.out
      rw [Nat.zero_add] at hR
      have hrw := hR.row
      obtain ⟨g, rfl, hg⟩ := owns_some hrw hL1
      have hLT := Lib.hid hR.lt
      replace R := Lib.hid hR
      clear hR hrw e6 f6 hB5 hown' hgrow z6 HQ4 HV4 HVS HT2 c0 c1 c2 c3 c4 c5 c6 c7 hml hml2 HWN HI0 hz0 hz1 hz2
      generalize w5.setCell ⟨w2.heap.size, 6, none⟩ (.slice (some ⟨g, 0, none⟩) L rc) = WR at *
      generalize w2.heap.size = bq at *
      have HWL : Hid (WdS w x (.slice (some ⟨nb, no, none⟩) L cn) (.slice am M cm) (.slice ap N cp) bq x (.slice (some ⟨g, 0, none⟩) L rc) L (wlN x mo 0) WR) := by rw [show wlN x mo 0 = x.nodes by unfold wlN wideL; split <;> rfl]; exact R.out
      go_loopw [8] (fun i wr => ∃ k : Nat, k ≤ L ∧ i = .int .i64 (k : Int) ∧ WdS w x (.slice (some ⟨nb, no, none⟩) L cn) (.slice am M cm) (.slice ap N cp) bq x (.slice (some ⟨g, 0, none⟩) L rc) L (wlN x mo k) wr) (fun i _ => L - (intOf i).toNat)
      case atStart => exact ⟨0, Nat.zero_le _, rfl, HWL.out⟩
      case round =>
        obtain ⟨k, hk, rfl, hS⟩ := hrel
        have HS := Lib.hid hS
        clear hS HWL R
        obtain ⟨c0, c1, c2, c3, c4, c5, c6, c7, hp0, -⟩ := lwS_S HS.out.b
        obtain ⟨d0, d1, d2, d3, d4, d5, d6, d7⟩ := HS.out.qb.cells
        by_cases hlt : k < L
        · have hki : (k : Int) < (L : Int) := by omega
          by_cases hb : x.kind = 3 ∨ x.kind = 4
          · have hdu := HFI.out.due k
            have hnd : (wlN x mo k)[k]? = some (at' x k) := by
              unfold wlN
              have e : x.nodes[k]? = some (at' x k) := by simp [at', List.getD, show k < x.nodes.length by rw [HLE.out]; exact hlt]
              split
              · rw [wideL_get, if_neg (Nat.lt_irrefl k), e]
              · exact e
            have hcel := due_cell HS.out.row hnd
            have hfro := (HS.out.row).frozenAt
            have HDU : Hid (WdS w x (.slice (some ⟨nb, no, none⟩) L cn) (.slice am M cm) (.slice ap N cp) bq x (.slice (some ⟨g, 0, none⟩) L rc) L (wlN x mo (k + 1)) (wr.drew.setCell ⟨g, k * 7 + 4, none⟩ (.int .i64 (min ((at' x k).due + mo) 100000000)))) := by
              rw [wlN_step hnd hb]
              exact HS.out.drew.due hL1 hnd _
            have HADD : Hid (IntKind.i64.wrap ((at' x k).due + mo) = (at' x k).due + mo) := IntWalk.i64_in _ (by omega)
            have HMO : Hid (IntKind.i64.wrap mo = mo) := IntWalk.i64_in _ (by omega)
            generalize (at' x k).due = du at *
            by_cases h3 : x.kind = 3
            · have hk3 : (x.kind == 3) = true := by simpa using h3
              clear h3 hb
              go_upto_region 9 with (fail)
              have e6 : wr.drew.cell? ⟨bq, 6, none⟩ = some (.slice (some ⟨g, 0, none⟩) L rc) := d6
              have e4 : wr.drew.cell? ⟨g, k * 7 + 4, none⟩ = some (.int .i64 du) := hcel
              have f4 : ∀ j, wr.drew.frozen? ⟨g, j, none⟩ = false := hfro
              refine wp_region_held_drew (S := (fun W => W.cell? ⟨bq, 6, none⟩ = some (.slice (some ⟨g, 0, none⟩) L rc))) (by kernel_rfl) e6 (fun hHeld0 => ?_)
              have HD4 := HDU.out
              clear hHeld0 c0 c1 c2 c3 c4 c5 c6 c7 hp0 d0 d1 d2 d3 d4 d5 d6 d7 hcel hfro hnd
              generalize wr.drew = W4 at *
              refine wpAnyH_take (i := 0) (v := ?_) rfl (by kernel_rfl) (by kernel_rfl) (by kernel_rfl) (fun _ _ _ h => h) (Or.inl ⟨by kernel_rfl, ?_⟩) e6 ?_
              rotate_left
              · (intro w0 hSw; (try dsimp only at hSw); have e60 := hSw; go_simp; try with_reducible rfl)
              try dsimp only [List.getElem_toArray, List.getElem_cons_succ, List.getElem_cons_zero, Act.put]
              try simp only [List.setIfInBounds_toArray, List.set_cons_zero, List.set_cons_succ]
              refine wpAnyH_take (i := 1) (v := ?_) rfl (by kernel_rfl) (by kernel_rfl) (by kernel_rfl) (fun _ _ _ h => h) (Or.inl ⟨by kernel_rfl, ?_⟩) e6 ?_
              rotate_left
              · (intro w0 hSw; (try dsimp only at hSw); have e60 := hSw; go_simp; try with_reducible rfl)
              try dsimp only [List.getElem_toArray, List.getElem_cons_succ, List.getElem_cons_zero, Act.put]
              try simp only [List.setIfInBounds_toArray, List.set_cons_zero, List.set_cons_succ]
              refine wpAnyH_take (i := 2) (v := ?_) rfl (by kernel_rfl) (by kernel_rfl) (by kernel_rfl) (fun _ _ _ h => h) (Or.inl ⟨by kernel_rfl, ?_⟩) e6 ?_
              rotate_left
              · (intro w0 hSw; (try dsimp only at hSw); have e60 := hSw; go_simp; try with_reducible rfl)
              try dsimp only [List.getElem_toArray, List.getElem_cons_succ, List.getElem_cons_zero, Act.put]
              try simp only [List.setIfInBounds_toArray, List.set_cons_zero, List.set_cons_succ]
              refine wpAnyH_take (i := 3) (v := ?_) rfl (by kernel_rfl) (by kernel_rfl) (by kernel_rfl) (fun _ _ _ h => h) (Or.inl ⟨by kernel_rfl, ?_⟩) e6 ?_
              rotate_left
              · (intro w0 hSw; (try dsimp only at hSw); have e60 := hSw; go_simp; try with_reducible rfl)
              try dsimp only [List.getElem_toArray, List.getElem_cons_succ, List.getElem_cons_zero, Act.put]
              try simp only [List.setIfInBounds_toArray, List.set_cons_zero, List.set_cons_succ]
              refine wpAnyH_take (i := 4) (v := ?_) rfl (by kernel_rfl) (by kernel_rfl) (by kernel_rfl) (fun _ _ _ h => h) (Or.inl ⟨by kernel_rfl, ?_⟩) e6 ?_
              rotate_left
              · (intro w0 hSw; (try dsimp only at hSw); have e60 := hSw; go_simp; try with_reducible rfl)
              try dsimp only [List.getElem_toArray, List.getElem_cons_succ, List.getElem_cons_zero, Act.put]
              try simp only [List.setIfInBounds_toArray, List.set_cons_zero, List.set_cons_succ]
              refine wpAnyH_take (i := 5) (v := ?_) rfl (by kernel_rfl) (by kernel_rfl) (by kernel_rfl) (fun _ _ _ h => h) (Or.inl ⟨by kernel_rfl, ?_⟩) e6 ?_
              rotate_left
              · (intro w0 hSw; (try dsimp only at hSw); have e60 := hSw; go_simp; try with_reducible rfl)
              try dsimp only [List.getElem_toArray, List.getElem_cons_succ, List.getElem_cons_zero, Act.put]
              try simp only [List.setIfInBounds_toArray, List.set_cons_zero, List.set_cons_succ]
              refine wpAnyH_take (i := 6) (v := ?_) rfl (by kernel_rfl) (by kernel_rfl) (by kernel_rfl) (fun _ _ _ h => h) (Or.inl ⟨by kernel_rfl, ?_⟩) e6 ?_
              rotate_left
              · (intro w0 hSw; (try dsimp only at hSw); have e60 := hSw; go_simp; try with_reducible rfl)
              try dsimp only [List.getElem_toArray, List.getElem_cons_succ, List.getElem_cons_zero, Act.put]
              try simp only [List.setIfInBounds_toArray, List.set_cons_zero, List.set_cons_succ]
              refine wpAnyH_take (i := 7) (v := ?_) rfl (by kernel_rfl) (by kernel_rfl) (by kernel_rfl) (fun _ _ _ h => h) (Or.inl ⟨by kernel_rfl, ?_⟩) e6 ?_
              rotate_left
              · (intro w0 hSw; (try dsimp only at hSw); have e60 := hSw; go_simp; try with_reducible rfl)
              try dsimp only [List.getElem_toArray, List.getElem_cons_succ, List.getElem_cons_zero, Act.put]
              try simp only [List.setIfInBounds_toArray, List.set_cons_zero, List.set_cons_succ]
              refine wpAnyH_take (i := 9) (v := ?_) rfl (by kernel_rfl) (by kernel_rfl) (by kernel_rfl) (fun _ _ _ h => h) (Or.inl ⟨by kernel_rfl, ?_⟩) e6 ?_
              rotate_left
              · (intro w0 hSw; (try dsimp only at hSw); have e60 := hSw; go_simp; try with_reducible rfl)
              try dsimp only [List.getElem_toArray, List.getElem_cons_succ, List.getElem_cons_zero, Act.put]
              try simp only [List.setIfInBounds_toArray, List.set_cons_zero, List.set_cons_succ]
              refine wpAnyH_take (i := 10) (v := .int .i64 mo) rfl (by kernel_rfl) (by kernel_rfl) (by kernel_rfl) (fun _ _ _ h => h) (Or.inl ⟨by kernel_rfl, ?_⟩) e6 ?_
              · (intro w0 hSw; (try dsimp only at hSw); have e60 := hSw; go_simp; try rw [HMO.out]; try rfl)
              try dsimp only [List.getElem_toArray, List.getElem_cons_succ, List.getElem_cons_zero, Act.put]
              try simp only [List.setIfInBounds_toArray, List.set_cons_zero, List.set_cons_succ]
              refine wpAnyH_ready (rs := [8]) (by kernel_rfl) (by simp) (AllReadyH.cons rfl (fun KK hKK => ?_) AllReadyH.nil)
              go_simp
              refine hKK.out _ _ e6 (fun _ => ?_)
              clear hKK KK
              try dsimp only [List.getElem_toArray, List.getElem_cons_succ, List.getElem_cons_zero, Act.put]
              try simp only [List.setIfInBounds_toArray, List.set_cons_zero, List.set_cons_succ]
              refine wpAnyH_take (i := 11) (v := .int .i64 (du + mo)) rfl (by kernel_rfl) (by kernel_rfl) (by kernel_rfl) (fun _ _ _ h => h) (Or.inl ⟨by kernel_rfl, ?_⟩) e6 ?_
              · (intro w0 hSw; (try dsimp only at hSw); have e60 := hSw; go_simp; try rw [HADD.out]; try rfl)
              try dsimp only [List.getElem_toArray, List.getElem_cons_succ, List.getElem_cons_zero, Act.put]
              try simp only [List.setIfInBounds_toArray, List.set_cons_zero, List.set_cons_succ]
              refine wpAnyH_take (i := 12) (v := .int .i64 (min (du + mo) 100000000)) rfl (by kernel_rfl) (by kernel_rfl) (by kernel_rfl) (fun _ _ _ h => h) (Or.inl ⟨by kernel_rfl, ?_⟩) e6 ?_
              · (intro w0 hSw; (try dsimp only at hSw); have e60 := hSw; go_simp; try rfl)
              try dsimp only [List.getElem_toArray, List.getElem_cons_succ, List.getElem_cons_zero, Act.put]
              try simp only [List.setIfInBounds_toArray, List.set_cons_zero, List.set_cons_succ]
              refine wpAnyH_take (i := 13) (v := ?_) rfl (by kernel_rfl) (by kernel_rfl) (by kernel_rfl) (fun _ _ _ h => h) (Or.inl ⟨by kernel_rfl, ?_⟩) e6 ?_
              rotate_left
              · (intro w0 hSw; (try dsimp only at hSw); have e60 := hSw; go_simp; try with_reducible rfl)
              try dsimp only [List.getElem_toArray, List.getElem_cons_succ, List.getElem_cons_zero, Act.put]
              try simp only [List.setIfInBounds_toArray, List.set_cons_zero, List.set_cons_succ]
              refine wpAnyH_take (i := 14) (v := ?_) rfl (by kernel_rfl) (by kernel_rfl) (by kernel_rfl) (fun _ _ _ h => h) (Or.inl ⟨by kernel_rfl, ?_⟩) e6 ?_
              rotate_left
              · (intro w0 hSw; (try dsimp only at hSw); have e60 := hSw; go_simp; try with_reducible rfl)
              try dsimp only [List.getElem_toArray, List.getElem_cons_succ, List.getElem_cons_zero, Act.put]
              try simp only [List.setIfInBounds_toArray, List.set_cons_zero, List.set_cons_succ]
              refine wpAnyH_ready (rs := [15]) (by kernel_rfl) (by simp) (AllReadyH.cons rfl (fun KK hKK => ?_) AllReadyH.nil)
              go_simp
              have e6x := (HD4.qb).c 6
              refine hKK.out _ _ e6x (fun _ => ?_)
              clear hKK KK
              refine wpAnyH_done (by kernel_rfl) ?_ _
              try dsimp only [List.getElem_toArray, List.getElem_cons_succ, List.getElem_cons_zero, Act.put]
              try simp only [List.setIfInBounds_toArray, List.set_cons_zero, List.set_cons_succ]
              clear HDU e6x e6 e4 f4 HS
              generalize W4.setCell ⟨g, k * 7 + 4, none⟩ (.int .i64 (min (du + mo) 100000000)) = W6 at *
              go_wp2
              go_roundw
              case rel => exact ⟨k + 1, by omega, by go_num, HD4⟩
              case measure => simp [intOf]; omega
            · have hk3 : (x.kind == 3) = false := by simpa using h3
              have hk4 : (x.kind == 4) = true := by simpa using (hb.resolve_left h3)
              clear h3 hb
              go_upto_region 9 with (fail)
              have e6 : wr.drew.cell? ⟨bq, 6, none⟩ = some (.slice (some ⟨g, 0, none⟩) L rc) := d6
              have e4 : wr.drew.cell? ⟨g, k * 7 + 4, none⟩ = some (.int .i64 du) := hcel
              have f4 : ∀ j, wr.drew.frozen? ⟨g, j, none⟩ = false := hfro
              refine wp_region_held_drew (S := (fun W => W.cell? ⟨bq, 6, none⟩ = some (.slice (some ⟨g, 0, none⟩) L rc))) (by kernel_rfl) e6 (fun hHeld0 => ?_)
              have HD4 := HDU.out
              clear hHeld0 c0 c1 c2 c3 c4 c5 c6 c7 hp0 d0 d1 d2 d3 d4 d5 d6 d7 hcel hfro hnd
              generalize wr.drew = W4 at *
              refine wpAnyH_take (i := 0) (v := ?_) rfl (by kernel_rfl) (by kernel_rfl) (by kernel_rfl) (fun _ _ _ h => h) (Or.inl ⟨by kernel_rfl, ?_⟩) e6 ?_
              rotate_left
              · (intro w0 hSw; (try dsimp only at hSw); have e60 := hSw; go_simp; try with_reducible rfl)
              try dsimp only [List.getElem_toArray, List.getElem_cons_succ, List.getElem_cons_zero, Act.put]
              try simp only [List.setIfInBounds_toArray, List.set_cons_zero, List.set_cons_succ]
              refine wpAnyH_take (i := 1) (v := ?_) rfl (by kernel_rfl) (by kernel_rfl) (by kernel_rfl) (fun _ _ _ h => h) (Or.inl ⟨by kernel_rfl, ?_⟩) e6 ?_
              rotate_left
              · (intro w0 hSw; (try dsimp only at hSw); have e60 := hSw; go_simp; try with_reducible rfl)
              try dsimp only [List.getElem_toArray, List.getElem_cons_succ, List.getElem_cons_zero, Act.put]
              try simp only [List.setIfInBounds_toArray, List.set_cons_zero, List.set_cons_succ]
              refine wpAnyH_take (i := 2) (v := ?_) rfl (by kernel_rfl) (by kernel_rfl) (by kernel_rfl) (fun _ _ _ h => h) (Or.inl ⟨by kernel_rfl, ?_⟩) e6 ?_
              rotate_left
              · (intro w0 hSw; (try dsimp only at hSw); have e60 := hSw; go_simp; try with_reducible rfl)
              try dsimp only [List.getElem_toArray, List.getElem_cons_succ, List.getElem_cons_zero, Act.put]
              try simp only [List.setIfInBounds_toArray, List.set_cons_zero, List.set_cons_succ]
              refine wpAnyH_take (i := 3) (v := ?_) rfl (by kernel_rfl) (by kernel_rfl) (by kernel_rfl) (fun _ _ _ h => h) (Or.inl ⟨by kernel_rfl, ?_⟩) e6 ?_
              rotate_left
              · (intro w0 hSw; (try dsimp only at hSw); have e60 := hSw; go_simp; try with_reducible rfl)
              try dsimp only [List.getElem_toArray, List.getElem_cons_succ, List.getElem_cons_zero, Act.put]
              try simp only [List.setIfInBounds_toArray, List.set_cons_zero, List.set_cons_succ]
              refine wpAnyH_take (i := 4) (v := ?_) rfl (by kernel_rfl) (by kernel_rfl) (by kernel_rfl) (fun _ _ _ h => h) (Or.inl ⟨by kernel_rfl, ?_⟩) e6 ?_
              rotate_left
              · (intro w0 hSw; (try dsimp only at hSw); have e60 := hSw; go_simp; try with_reducible rfl)
              try dsimp only [List.getElem_toArray, List.getElem_cons_succ, List.getElem_cons_zero, Act.put]
              try simp only [List.setIfInBounds_toArray, List.set_cons_zero, List.set_cons_succ]
              refine wpAnyH_take (i := 5) (v := ?_) rfl (by kernel_rfl) (by kernel_rfl) (by kernel_rfl) (fun _ _ _ h => h) (Or.inl ⟨by kernel_rfl, ?_⟩) e6 ?_
              rotate_left
              · (intro w0 hSw; (try dsimp only at hSw); have e60 := hSw; go_simp; try with_reducible rfl)
              try dsimp only [List.getElem_toArray, List.getElem_cons_succ, List.getElem_cons_zero, Act.put]
              try simp only [List.setIfInBounds_toArray, List.set_cons_zero, List.set_cons_succ]
              refine wpAnyH_take (i := 6) (v := ?_) rfl (by kernel_rfl) (by kernel_rfl) (by kernel_rfl) (fun _ _ _ h => h) (Or.inl ⟨by kernel_rfl, ?_⟩) e6 ?_
              rotate_left
              · (intro w0 hSw; (try dsimp only at hSw); have e60 := hSw; go_simp; try with_reducible rfl)
              try dsimp only [List.getElem_toArray, List.getElem_cons_succ, List.getElem_cons_zero, Act.put]
              try simp only [List.setIfInBounds_toArray, List.set_cons_zero, List.set_cons_succ]
              refine wpAnyH_take (i := 7) (v := ?_) rfl (by kernel_rfl) (by kernel_rfl) (by kernel_rfl) (fun _ _ _ h => h) (Or.inl ⟨by kernel_rfl, ?_⟩) e6 ?_
              rotate_left
              · (intro w0 hSw; (try dsimp only at hSw); have e60 := hSw; go_simp; try with_reducible rfl)
              try dsimp only [List.getElem_toArray, List.getElem_cons_succ, List.getElem_cons_zero, Act.put]
              try simp only [List.setIfInBounds_toArray, List.set_cons_zero, List.set_cons_succ]
              refine wpAnyH_take (i := 9) (v := ?_) rfl (by kernel_rfl) (by kernel_rfl) (by kernel_rfl) (fun _ _ _ h => h) (Or.inl ⟨by kernel_rfl, ?_⟩) e6 ?_
              rotate_left
              · (intro w0 hSw; (try dsimp only at hSw); have e60 := hSw; go_simp; try with_reducible rfl)
              try dsimp only [List.getElem_toArray, List.getElem_cons_succ, List.getElem_cons_zero, Act.put]
              try simp only [List.setIfInBounds_toArray, List.set_cons_zero, List.set_cons_succ]
              refine wpAnyH_take (i := 10) (v := .int .i64 mo) rfl (by kernel_rfl) (by kernel_rfl) (by kernel_rfl) (fun _ _ _ h => h) (Or.inl ⟨by kernel_rfl, ?_⟩) e6 ?_
              · (intro w0 hSw; (try dsimp only at hSw); have e60 := hSw; go_simp; try rw [HMO.out]; try rfl)
              try dsimp only [List.getElem_toArray, List.getElem_cons_succ, List.getElem_cons_zero, Act.put]
              try simp only [List.setIfInBounds_toArray, List.set_cons_zero, List.set_cons_succ]
              refine wpAnyH_ready (rs := [8]) (by kernel_rfl) (by simp) (AllReadyH.cons rfl (fun KK hKK => ?_) AllReadyH.nil)
              go_simp
              refine hKK.out _ _ e6 (fun _ => ?_)
              clear hKK KK
              try dsimp only [List.getElem_toArray, List.getElem_cons_succ, List.getElem_cons_zero, Act.put]
              try simp only [List.setIfInBounds_toArray, List.set_cons_zero, List.set_cons_succ]
              refine wpAnyH_take (i := 11) (v := .int .i64 (du + mo)) rfl (by kernel_rfl) (by kernel_rfl) (by kernel_rfl) (fun _ _ _ h => h) (Or.inl ⟨by kernel_rfl, ?_⟩) e6 ?_
              · (intro w0 hSw; (try dsimp only at hSw); have e60 := hSw; go_simp; try rw [HADD.out]; try rfl)
              try dsimp only [List.getElem_toArray, List.getElem_cons_succ, List.getElem_cons_zero, Act.put]
              try simp only [List.setIfInBounds_toArray, List.set_cons_zero, List.set_cons_succ]
              refine wpAnyH_take (i := 12) (v := .int .i64 (min (du + mo) 100000000)) rfl (by kernel_rfl) (by kernel_rfl) (by kernel_rfl) (fun _ _ _ h => h) (Or.inl ⟨by kernel_rfl, ?_⟩) e6 ?_
              · (intro w0 hSw; (try dsimp only at hSw); have e60 := hSw; go_simp; try rfl)
              try dsimp only [List.getElem_toArray, List.getElem_cons_succ, List.getElem_cons_zero, Act.put]
              try simp only [List.setIfInBounds_toArray, List.set_cons_zero, List.set_cons_succ]
              refine wpAnyH_take (i := 13) (v := ?_) rfl (by kernel_rfl) (by kernel_rfl) (by kernel_rfl) (fun _ _ _ h => h) (Or.inl ⟨by kernel_rfl, ?_⟩) e6 ?_
              rotate_left
              · (intro w0 hSw; (try dsimp only at hSw); have e60 := hSw; go_simp; try with_reducible rfl)
              try dsimp only [List.getElem_toArray, List.getElem_cons_succ, List.getElem_cons_zero, Act.put]
              try simp only [List.setIfInBounds_toArray, List.set_cons_zero, List.set_cons_succ]
              refine wpAnyH_take (i := 14) (v := ?_) rfl (by kernel_rfl) (by kernel_rfl) (by kernel_rfl) (fun _ _ _ h => h) (Or.inl ⟨by kernel_rfl, ?_⟩) e6 ?_
              rotate_left
              · (intro w0 hSw; (try dsimp only at hSw); have e60 := hSw; go_simp; try with_reducible rfl)
              try dsimp only [List.getElem_toArray, List.getElem_cons_succ, List.getElem_cons_zero, Act.put]
              try simp only [List.setIfInBounds_toArray, List.set_cons_zero, List.set_cons_succ]
              refine wpAnyH_ready (rs := [15]) (by kernel_rfl) (by simp) (AllReadyH.cons rfl (fun KK hKK => ?_) AllReadyH.nil)
              go_simp
              have e6x := (HD4.qb).c 6
              refine hKK.out _ _ e6x (fun _ => ?_)
              clear hKK KK
              refine wpAnyH_done (by kernel_rfl) ?_ _
              try dsimp only [List.getElem_toArray, List.getElem_cons_succ, List.getElem_cons_zero, Act.put]
              try simp only [List.setIfInBounds_toArray, List.set_cons_zero, List.set_cons_succ]
              clear HDU e6x e6 e4 f4 HS
              generalize W4.setCell ⟨g, k * 7 + 4, none⟩ (.int .i64 (min (du + mo) 100000000)) = W6 at *
              go_wp2
              go_roundw
              case rel => exact ⟨k + 1, by omega, by go_num, HD4⟩
              case measure => simp [intOf]; omega
          · have hk3 : (x.kind == 3) = false := by simpa using fun h => hb (.inl h)
            have hk4 : (x.kind == 4) = false := by simpa using fun h => hb (.inr h)
            have HSN : Hid (WdS w x (.slice (some ⟨nb, no, none⟩) L cn) (.slice am M cm) (.slice ap N cp) bq x (.slice (some ⟨g, 0, none⟩) L rc) L (wlN x mo (k + 1)) wr) := by
              have hbb : ¬ big x = true := fun h => hb (of_decide_eq_true h)
              have e : wlN x mo (k + 1) = wlN x mo k := by unfold wlN; rw [if_neg hbb, if_neg hbb]
              rw [e]; exact HS.out
            clear hb
            go_wp2
            go_roundw
            case rel => exact ⟨k + 1, by omega, by go_num, HSN.out⟩
            case measure => simp [intOf]; omega
        · have hkL : L = k := by omega
          subst hkL
          have HWLL : Hid ((wlN x mo L).length = L) := by unfold Hid wlN; split; rw [wideL_length, HLE.out]; exact HLE.out
          have hcb := HFI.out.cap
          have hfl0 := HFI.out.fleet
          by_cases k1 : x.kind = 1
          · have hk1 : (x.kind != 1) = false := by simpa using k1
            have HEQ : Hid (({ x with nodes := wlN x mo L } : Ins) = wideI x mo) := by unfold Hid wideI wlN; rw [if_pos k1, if_pos (Or.inl k1), HLE.out]
            have HFY : Hid (∀ W, HasIns W (.slice (some ⟨g, 0, none⟩) L rc) (.slice am M cm) { x with nodes := wlN x mo L } → HasRts W (.slice ap N cp) rr → feasB x rr = true → Calls Try.prog 19 #[.agg #[.string x.name, .int .i64 x.kind, .int .i64 x.metric, .int .i64 x.scale, .int .i64 (x.cap), .int .i64 (x.fleet), (.slice (some ⟨g, 0, none⟩) L rc), (.slice am M cm)], .agg #[(.slice ap N cp)]] W fun e w' => e = .returned (.bool true) ∧ Below W.heap.size W w') := fun W h1 h2 h3 => by
              have h := H.feasible { x with nodes := wlN x mo L } (.slice (some ⟨g, 0, none⟩) L rc) (.slice am M cm) (.slice ap N cp) rr W h1 (by rw [HEQ.out]; exact fine_wide HFI.out hb0) (HRL.out rr rfl).1 (HRL.out rr rfl).2 h2
              rw [show feasB ({ x with nodes := wlN x mo L } : Ins) rr = true by rw [HEQ.out]; exact wide_feas HFI.out hb0 rr h3] at h
              exact h
            have HF : Hid (WdS w x (.slice (some ⟨nb, no, none⟩) L cn) (.slice am M cm) (.slice ap N cp) bq ({ x with nodes := wlN x mo L } : Ins) (.slice (some ⟨g, 0, none⟩) L rc) L (wlN x mo L) (wr)) := ⟨HS.out.b, HS.out.qb, HS.out.row, HS.out.lt⟩
            clear c0 c1 c2 c3 c4 c5 c6 c7 hp0 d0 d1 d2 d3 d4 d5 d6 d7
            obtain ⟨c0, c1, c2, c3, c4, c5, c6, c7, hp0, -⟩ := lwS_S HF.out.b
            obtain ⟨d0, d1, d2, d3, d4, d5, d6, d7⟩ := HF.out.qb.cells
            clear k1
            cases hfb : feasB x rr
            · have HFX : Hid (∀ W, HasIns W (.slice (some ⟨nb, no, none⟩) L cn) (.slice am M cm) x → HasRts W (.slice ap N cp) rr → Calls Try.prog 19 #[.agg #[.string x.name, .int .i64 x.kind, .int .i64 x.metric, .int .i64 x.scale, .int .i64 x.cap, .int .i64 x.fleet, (.slice (some ⟨nb, no, none⟩) L cn), (.slice am M cm)], .agg #[(.slice ap N cp)]] W fun e w' => e = .returned (.bool false) ∧ Below W.heap.size W w') := fun W h1 h2 => hfb ▸ H.feasible x _ _ _ rr W h1 HFI.out (HRL.out rr rfl).1 (HRL.out rr rfl).2 h2
              clear hfb H HFY HEQ
              go_wp2_with (go_at_call 19; (with_reducible refine (HFX.out _ (HX.out.next HF.out.b.below) (HV.out.next HF.out.b.below)).mono ?_); rintro e w7 ⟨rfl, hb7⟩; have HF7 := Lib.hid (HF.out.next hb7))
              go_ret
              exact ⟨rfl, HF7.out.b.below⟩
            · have HFX : Hid (∀ W, HasIns W (.slice (some ⟨nb, no, none⟩) L cn) (.slice am M cm) x → HasRts W (.slice ap N cp) rr → Calls Try.prog 19 #[.agg #[.string x.name, .int .i64 x.kind, .int .i64 x.metric, .int .i64 x.scale, .int .i64 x.cap, .int .i64 x.fleet, (.slice (some ⟨nb, no, none⟩) L cn), (.slice am M cm)], .agg #[(.slice ap N cp)]] W fun e w' => e = .returned (.bool true) ∧ Below W.heap.size W w') := fun W h1 h2 => hfb ▸ H.feasible x _ _ _ rr W h1 HFI.out (HRL.out rr rfl).1 (HRL.out rr rfl).2 h2
              have HFB := Lib.hid hfb
              clear hfb H HEQ
              go_wp2_with (first
                | (go_at_call 19; (with_reducible refine (HFX.out _ (HX.out.next HF.out.b.below) (HV.out.next HF.out.b.below)).mono ?_); rintro e w7 ⟨rfl, hb7⟩; have HF7 := Lib.hid (HF.out.next hb7); clear hb7 c0 c1 c2 c3 c4 c5 c6 c7 hp0 d0 d1 d2 d3 d4 d5 d6 d7; obtain ⟨c0, c1, c2, c3, c4, c5, c6, c7, hp0, -⟩ := lwS_S HF7.out.b; obtain ⟨d0, d1, d2, d3, d4, d5, d6, d7⟩ := HF7.out.qb.cells)
                | (go_at_call 19; (with_reducible refine (HFY.out _ (HF7.out.ins HX.out HWLL.out rfl) (HV.out.next HF7.out.b.below) HFB.out).mono ?_); rintro e w8 ⟨rfl, hb8⟩; have HF8 := Lib.hid (HF7.out.next hb8)))
              go_ret
              exact ⟨rfl, HF8.out.b.below⟩
          · have hk1 : (x.kind != 1) = true := by simpa using k1
            have hw4 : wrap64 (x.cap + mo) = x.cap + mo := by unfold wrap64; omega
            have fq4 : wr.frozen? ⟨bq, 4, none⟩ = false := HS.out.qb.frozen 4
            have HS1 := Lib.hid (HS.out.limit (z := { x with cap := min (x.cap + mo) 100000000 }) (j := 4) (u := .int .i64 (min (x.cap + mo) 100000000)) rfl)
            by_cases k5 : 0 < x.fleet
            · have hw5 : wrap64 (x.fleet + mo) = x.fleet + mo := by unfold wrap64; omega
              have hf5 : decide (0 < x.fleet) = true := decide_eq_true k5
              have z5 := HS1.out.b.box.c 5
              have y5 := HS1.out.qb.c 5
              have fq5 := HS1.out.qb.frozen 5
              have HEQ : Hid (({ x with cap := min (x.cap + mo) 100000000, fleet := min (x.fleet + mo) 400, nodes := wlN x mo L } : Ins) = wideI x mo) := by unfold Hid wideI wlN; rw [if_neg k1, if_neg (show ¬(x.kind = 1 ∨ x.fleet ≤ 0) by omega), HLE.out]
              have HFY : Hid (∀ W, HasIns W (.slice (some ⟨g, 0, none⟩) L rc) (.slice am M cm) { x with cap := min (x.cap + mo) 100000000, fleet := min (x.fleet + mo) 400, nodes := wlN x mo L } → HasRts W (.slice ap N cp) rr → feasB x rr = true → Calls Try.prog 19 #[.agg #[.string x.name, .int .i64 x.kind, .int .i64 x.metric, .int .i64 x.scale, .int .i64 (min (x.cap + mo) 100000000), .int .i64 (min (x.fleet + mo) 400), (.slice (some ⟨g, 0, none⟩) L rc), (.slice am M cm)], .agg #[(.slice ap N cp)]] W fun e w' => e = .returned (.bool true) ∧ Below W.heap.size W w') := fun W h1 h2 h3 => by
                have h := H.feasible { x with cap := min (x.cap + mo) 100000000, fleet := min (x.fleet + mo) 400, nodes := wlN x mo L } (.slice (some ⟨g, 0, none⟩) L rc) (.slice am M cm) (.slice ap N cp) rr W h1 (by rw [HEQ.out]; exact fine_wide HFI.out hb0) (HRL.out rr rfl).1 (HRL.out rr rfl).2 h2
                rw [show feasB ({ x with cap := min (x.cap + mo) 100000000, fleet := min (x.fleet + mo) 400, nodes := wlN x mo L } : Ins) rr = true by rw [HEQ.out]; exact wide_feas HFI.out hb0 rr h3] at h
                exact h
              have HF : Hid (WdS w x (.slice (some ⟨nb, no, none⟩) L cn) (.slice am M cm) (.slice ap N cp) bq ({ x with cap := min (x.cap + mo) 100000000, fleet := min (x.fleet + mo) 400, nodes := wlN x mo L } : Ins) (.slice (some ⟨g, 0, none⟩) L rc) L (wlN x mo L) ((wr.setCell ⟨bq, 4, none⟩ (.int .i64 (min (x.cap + mo) 100000000))).setCell ⟨bq, 5, none⟩ (.int .i64 (min (x.fleet + mo) 400)))) := ⟨(HS1.out.limit (z := { x with cap := min (x.cap + mo) 100000000, fleet := min (x.fleet + mo) 400 }) (j := 5) (u := .int .i64 (min (x.fleet + mo) 400)) rfl).b, (HS1.out.limit (z := { x with cap := min (x.cap + mo) 100000000, fleet := min (x.fleet + mo) 400 }) (j := 5) (u := .int .i64 (min (x.fleet + mo) 400)) rfl).qb, (HS1.out.limit (z := { x with cap := min (x.cap + mo) 100000000, fleet := min (x.fleet + mo) 400 }) (j := 5) (u := .int .i64 (min (x.fleet + mo) 400)) rfl).row, HS1.out.lt⟩
              have HCX := Lib.hid (lwS_S HS.out.b)
              obtain ⟨p0, p1, p2, p3, p4, p5, p6, p7, php, -⟩ := lwS_S HF.out.b
              clear k1 k5
              cases hfb : feasB x rr
              · have HFX : Hid (∀ W, HasIns W (.slice (some ⟨nb, no, none⟩) L cn) (.slice am M cm) x → HasRts W (.slice ap N cp) rr → Calls Try.prog 19 #[.agg #[.string x.name, .int .i64 x.kind, .int .i64 x.metric, .int .i64 x.scale, .int .i64 x.cap, .int .i64 x.fleet, (.slice (some ⟨nb, no, none⟩) L cn), (.slice am M cm)], .agg #[(.slice ap N cp)]] W fun e w' => e = .returned (.bool false) ∧ Below W.heap.size W w') := fun W h1 h2 => hfb ▸ H.feasible x _ _ _ rr W h1 HFI.out (HRL.out rr rfl).1 (HRL.out rr rfl).2 h2
                clear hfb H HFY HEQ
                go_wp2_with (go_at_call 19; (with_reducible refine (HFX.out _ (HX.out.next HF.out.b.below) (HV.out.next HF.out.b.below)).mono ?_); rintro e w7 ⟨rfl, hb7⟩; have HF7 := Lib.hid (HF.out.next hb7))
                go_ret
                exact ⟨rfl, HF7.out.b.below⟩
              · have HFX : Hid (∀ W, HasIns W (.slice (some ⟨nb, no, none⟩) L cn) (.slice am M cm) x → HasRts W (.slice ap N cp) rr → Calls Try.prog 19 #[.agg #[.string x.name, .int .i64 x.kind, .int .i64 x.metric, .int .i64 x.scale, .int .i64 x.cap, .int .i64 x.fleet, (.slice (some ⟨nb, no, none⟩) L cn), (.slice am M cm)], .agg #[(.slice ap N cp)]] W fun e w' => e = .returned (.bool true) ∧ Below W.heap.size W w') := fun W h1 h2 => hfb ▸ H.feasible x _ _ _ rr W h1 HFI.out (HRL.out rr rfl).1 (HRL.out rr rfl).2 h2
                have HFB := Lib.hid hfb
                clear hfb H HEQ
                go_wp2_with (first
                  | (go_at_call 19; (with_reducible refine (HFX.out _ (HX.out.next HF.out.b.below) (HV.out.next HF.out.b.below)).mono ?_); rintro e w7 ⟨rfl, hb7⟩; have HF7 := Lib.hid (HF.out.next hb7); clear hb7; obtain ⟨c0, c1, c2, c3, c4, c5, c6, c7, hp0, -⟩ := lwS_S HF7.out.b; obtain ⟨d0, d1, d2, d3, d4, d5, d6, d7⟩ := HF7.out.qb.cells)
                  | (go_at_call 19; (with_reducible refine (HFY.out _ (HF7.out.ins HX.out HWLL.out rfl) (HV.out.next HF7.out.b.below) HFB.out).mono ?_); rintro e w8 ⟨rfl, hb8⟩; have HF8 := Lib.hid (HF7.out.next hb8)))
                go_ret
                exact ⟨rfl, HF8.out.b.below⟩
            · have hf5 : decide (0 < x.fleet) = false := decide_eq_false k5
              have z5 := HS1.out.b.box.c 5
              have HEQ : Hid (({ x with cap := min (x.cap + mo) 100000000, nodes := wlN x mo L } : Ins) = wideI x mo) := by unfold Hid wideI wlN; rw [if_neg k1, if_pos (show x.kind = 1 ∨ x.fleet ≤ 0 by omega), HLE.out]
              have HFY : Hid (∀ W, HasIns W (.slice (some ⟨g, 0, none⟩) L rc) (.slice am M cm) { x with cap := min (x.cap + mo) 100000000, nodes := wlN x mo L } → HasRts W (.slice ap N cp) rr → feasB x rr = true → Calls Try.prog 19 #[.agg #[.string x.name, .int .i64 x.kind, .int .i64 x.metric, .int .i64 x.scale, .int .i64 (min (x.cap + mo) 100000000), .int .i64 (x.fleet), (.slice (some ⟨g, 0, none⟩) L rc), (.slice am M cm)], .agg #[(.slice ap N cp)]] W fun e w' => e = .returned (.bool true) ∧ Below W.heap.size W w') := fun W h1 h2 h3 => by
                have h := H.feasible { x with cap := min (x.cap + mo) 100000000, nodes := wlN x mo L } (.slice (some ⟨g, 0, none⟩) L rc) (.slice am M cm) (.slice ap N cp) rr W h1 (by rw [HEQ.out]; exact fine_wide HFI.out hb0) (HRL.out rr rfl).1 (HRL.out rr rfl).2 h2
                rw [show feasB ({ x with cap := min (x.cap + mo) 100000000, nodes := wlN x mo L } : Ins) rr = true by rw [HEQ.out]; exact wide_feas HFI.out hb0 rr h3] at h
                exact h
              have HF : Hid (WdS w x (.slice (some ⟨nb, no, none⟩) L cn) (.slice am M cm) (.slice ap N cp) bq ({ x with cap := min (x.cap + mo) 100000000, nodes := wlN x mo L } : Ins) (.slice (some ⟨g, 0, none⟩) L rc) L (wlN x mo L) (wr.setCell ⟨bq, 4, none⟩ (.int .i64 (min (x.cap + mo) 100000000)))) := ⟨HS1.out.b, HS1.out.qb, HS1.out.row, HS1.out.lt⟩
              obtain ⟨p0, p1, p2, p3, p4, p5, p6, p7, php, -⟩ := lwS_S HF.out.b
              clear k1 k5
              cases hfb : feasB x rr
              · have HFX : Hid (∀ W, HasIns W (.slice (some ⟨nb, no, none⟩) L cn) (.slice am M cm) x → HasRts W (.slice ap N cp) rr → Calls Try.prog 19 #[.agg #[.string x.name, .int .i64 x.kind, .int .i64 x.metric, .int .i64 x.scale, .int .i64 x.cap, .int .i64 x.fleet, (.slice (some ⟨nb, no, none⟩) L cn), (.slice am M cm)], .agg #[(.slice ap N cp)]] W fun e w' => e = .returned (.bool false) ∧ Below W.heap.size W w') := fun W h1 h2 => hfb ▸ H.feasible x _ _ _ rr W h1 HFI.out (HRL.out rr rfl).1 (HRL.out rr rfl).2 h2
                clear hfb H HFY HEQ
                go_wp2_with (go_at_call 19; (with_reducible refine (HFX.out _ (HX.out.next HF.out.b.below) (HV.out.next HF.out.b.below)).mono ?_); rintro e w7 ⟨rfl, hb7⟩; have HF7 := Lib.hid (HF.out.next hb7))
                go_ret
                exact ⟨rfl, HF7.out.b.below⟩
              · have HFX : Hid (∀ W, HasIns W (.slice (some ⟨nb, no, none⟩) L cn) (.slice am M cm) x → HasRts W (.slice ap N cp) rr → Calls Try.prog 19 #[.agg #[.string x.name, .int .i64 x.kind, .int .i64 x.metric, .int .i64 x.scale, .int .i64 x.cap, .int .i64 x.fleet, (.slice (some ⟨nb, no, none⟩) L cn), (.slice am M cm)], .agg #[(.slice ap N cp)]] W fun e w' => e = .returned (.bool true) ∧ Below W.heap.size W w') := fun W h1 h2 => hfb ▸ H.feasible x _ _ _ rr W h1 HFI.out (HRL.out rr rfl).1 (HRL.out rr rfl).2 h2
                have HFB := Lib.hid hfb
                clear hfb H HEQ
                go_wp2_with (first
                  | (go_at_call 19; (with_reducible refine (HFX.out _ (HX.out.next HF.out.b.below) (HV.out.next HF.out.b.below)).mono ?_); rintro e w7 ⟨rfl, hb7⟩; have HF7 := Lib.hid (HF.out.next hb7); clear hb7; obtain ⟨c0, c1, c2, c3, c4, c5, c6, c7, hp0, -⟩ := lwS_S HF7.out.b; obtain ⟨d0, d1, d2, d3, d4, d5, d6, d7⟩ := HF7.out.qb.cells)
                  | (go_at_call 19; (with_reducible refine (HFY.out _ (HF7.out.ins HX.out HWLL.out rfl) (HV.out.next HF7.out.b.below) HFB.out).mono ?_); rintro e w8 ⟨rfl, hb8⟩; have HF8 := Lib.hid (HF7.out.next hb8)))
                go_ret
                exact ⟨rfl, HF8.out.b.below⟩
end Go.Proofs
