/- The document's own answers on nodes of instances: mate. Conditions: the node is there. -/
import Derived.Test.YtebkmcafahkdbaaG01
import Derived.Deep.AppendLies
import Derived.Deep.RegionLaw
import Derived.RangeFuncBox
namespace Go.Proofs
open Go.RowKit Go.Shelf Go.Canon
attribute [local go_sem] Oper.semAt_some

theorem HasIns.two {W : World} {vn vm : Value} {x : Ins} (h : HasIns W vn vm x) {i : Nat} (hi : i < x.nodes.length) : ∃ b off cap, vn = .slice (some ⟨b, off, none⟩) x.nodes.length cap ∧ x.nodes.length ≤ cap ∧ cap ≤ maxLen ∧ b < W.heap.size ∧ ∀ j, j < x.nodes.length → NdAt W b (off + j * 7) (at' x j) := by
  rcases h.nodes with ⟨h0, _⟩ | ⟨b, off, cap, rfl, h1, h2, hd⟩
  · rw [h0] at hi; cases hi
  · refine ⟨b, off, cap, rfl, h1, h2, hd.1, fun j hj => hd.2 j _ ?_⟩
    simp [at', List.getD, hj]
theorem cbelow_drewN {B : Nat} {a w : World} (h : Below B a w) (n : Nat) : Below B a (w.drewN n) := ⟨h.os, h.tape, h.output, h.size, h.block⟩
theorem wrap_neg (a : Int) : wrap64 (-a) = neg64 a := by
  unfold neg64 wrap64
  repeat' split
  all_goals omega
set_option maxRecDepth 100000 in
theorem Try.rmate_one (x : Ins) (vn vm : Value) (i : Nat) (w : World) (hx : HasIns w vn vm x) (hi : i < x.nodes.length) (hk : x.kind ≠ 4 ∨ i = 0) :
    Calls Try.prog 54 #[insV x vn vm, .int .i64 (i : Int)] w fun e w' => e = .returned (.bool (mateB x i)) ∧ Below w.heap.size w w' := by
  obtain ⟨b, off, cap, rfl, hb, hd⟩ := hx.node hi
  have d0 := hd.mate
  have ii : (i : Int) < (x.nodes.length : Int) := by omega
  unfold mateB
  rw [if_pos hk]
  unfold insV
  generalize x.nodes.length = L at hi ii ⊢
  generalize (at' x i).mate = s at d0 ⊢
  generalize x.kind = k at hk ⊢
  clear hx hd
  by_cases h1 : k = 4
  · subst h1
    have h2 : i = 0 := by omega
    have k2 : ((i : Int) == 0) = true := beq_iff_eq.2 (by omega)
    clear h2 hk
    go_enter Try.func54, Try.ntmps54
    go_wp2
    go_ret
    exact ⟨cret_is (beq_dec _ _), below_box _ _⟩
  · have k1 : (k != 4) = true := bne_iff_ne.2 h1
    clear h1 hk
    go_enter Try.func54, Try.ntmps54
    go_wp2
    go_ret
    exact ⟨cret_is (beq_dec _ _), below_box _ _⟩
set_option maxRecDepth 100000 in
theorem Try.rmate_four (x : Ins) (vn vm : Value) (i : Nat) (w : World) (hx : HasIns w vn vm x) (hi : i < x.nodes.length) (h4 : x.kind = 4) (h0 : i ≠ 0) :
    Calls Try.prog 54 #[insV x vn vm, .int .i64 (i : Int)] w fun e w' => e = .returned (.bool (mateB x i)) ∧ Below w.heap.size w w' := by
  obtain ⟨b, off, cap, rfl, hlc, hcm, hb, hd⟩ := hx.two hi
  have d0 := (hd i hi).mate
  have D0 := (hd i hi).demand
  have D1 := fun j hj => (hd j hj).demand
  have d1 := fun j hj => (hd j hj).mate
  have ii : (i : Int) < (x.nodes.length : Int) := by omega
  have k2 : ((i : Int) == 0) = false := beq_eq_false_iff_ne.2 (by omega)
  unfold mateB
  rw [if_neg (by omega)]
  unfold insV
  rw [h4]
  generalize x.nodes.length = L at *
  generalize hs : (at' x i).mate = s at d0 ⊢
  by_cases h1 : s < 1
  · rw [if_pos (.inl h1)]
    clear hx hd D1 d1
    go_enter Try.func54, Try.ntmps54
    go_wp2
    go_ret
    exact ⟨rfl, below_box _ _⟩
  · by_cases h2 : (L : Int) ≤ s
    · rw [if_pos (.inr (.inl h2))]
      clear hx hd D1 d1
      go_enter Try.func54, Try.ntmps54
      go_wp2
      go_ret
      exact ⟨rfl, below_box _ _⟩
    · by_cases h3 : s = (i : Int)
      · rw [if_pos (.inr (.inr (.inl h3)))]
        have k3 : (s == (i : Int)) = true := beq_iff_eq.2 h3
        clear hx hd D1 d1 h3
        go_enter Try.func54, Try.ntmps54
        go_wp2
        go_ret
        exact ⟨rfl, below_box _ _⟩
      · obtain ⟨m, rfl⟩ : ∃ m : Nat, s = (m : Int) := ⟨s.toNat, by omega⟩
        have hm : m < L := by omega
        have e1 := d1 m hm
        have E1 := D1 m hm
        have k3 : ((m : Int) == (i : Int)) = false := beq_eq_false_iff_ne.2 h3
        have mm : (m : Int) < (L : Int) := by omega
        simp only [Int.toNat_natCast]
        by_cases h5 : (at' x m).mate = (i : Int)
        · rw [if_neg (by omega)]
          rw [h5] at e1
          have eq : (decide ((at' x i).demand ≠ 0) && decide ((at' x m).demand = neg64 (at' x i).demand)) = ((at' x i).demand != 0 && ((at' x m).demand == neg64 (at' x i).demand)) := by rw [beq_dec, bne, beq_dec]; simp
          rw [eq]
          clear eq
          clear hx hd D1 d1 h3 h5 hs
          generalize (at' x m).demand = dm at E1 ⊢
          generalize (at' x i).demand = di at D0 ⊢
          by_cases hz : di = 0
          · subst hz
            go_enter Try.func54, Try.ntmps54
            go_wp2
            go_quiet (fail)
            go_wp2
            go_ret
            refine ⟨cret_is (by simp), ?_⟩
            exact cbelow_drewN (below_box _ _) _
          · have kz : (di != 0) = true := bne_iff_ne.2 hz
            rw [kz, Bool.true_and]
            clear hz
            go_enter Try.func54, Try.ntmps54
            go_wp2
            go_quiet (fail)
            go_wp2
            go_ret
            refine ⟨cret_is (by rw [← wrap_neg]), ?_⟩
            exact cbelow_drewN (below_box _ _) _
        · rw [if_pos (.inr (.inr (.inr h5)))]
          generalize (at' x m).mate = t at e1 h5
          have k5 : (t != (i : Int)) = true := bne_iff_ne.2 h5
          clear hx hd D1 d1 h3 h5 hs
          go_enter Try.func54, Try.ntmps54
          go_wp2
          go_ret
          exact ⟨rfl, below_box _ _⟩
theorem Try.rmate_calls (x : Ins) (vn vm : Value) (i : Nat) (w : World) (hx : HasIns w vn vm x) (hi : i < x.nodes.length) :
    Calls Try.prog 54 #[insV x vn vm, .int .i64 (i : Int)] w fun e w' => e = .returned (.bool (mateB x i)) ∧ Below w.heap.size w w' := by
  by_cases hk : x.kind ≠ 4 ∨ i = 0
  · exact Try.rmate_one x vn vm i w hx hi hk
  · exact Try.rmate_four x vn vm i w hx hi (by omega) (by omega)
end Go.Proofs
/- The document's own answer on the matrix of an instance. Conditions: 400 nodes at most. -/
namespace Go.Proofs
open Go.RowKit Go.Shelf Go.Canon
attribute [local go_sem] Oper.semAt_some

def okAt (l : List Int) (n k : Nat) : Bool := number (l.getD k 0) && !(decide (k % (n + 1) = 0) && decide (l.getD k 0 ≠ 0))
theorem matrix_no {x : Ins} (h : x.metric ≠ 0) : matrixB x = decide (x.matrix.length = 0) := by unfold matrixB; rw [if_pos h]
theorem matrix_yes {x : Ins} (h : x.metric = 0) : matrixB x = (decide (x.matrix.length = x.nodes.length * x.nodes.length) && (List.range (x.nodes.length * x.nodes.length)).all (okAt x.matrix x.nodes.length)) := by unfold matrixB; rw [if_neg (by omega)]; rfl
theorem nat_beq {a b : Nat} (c : Bool) (h : decide (a = b) = c) : ((a : Int) == (b : Int)) = c := by rw [← h, beq_dec, decide_eq_decide]; exact Int.ofNat_inj
theorem nat_bne {a b : Nat} (c : Bool) (h : decide (a = b) = !c) : ((a : Int) != (b : Int)) = c := by rw [bne, nat_beq _ h, Bool.not_not]
set_option maxRecDepth 100000 in
theorem Try.rmatrix_no (x : Ins) (vn vm : Value) (w : World) (hx : HasIns w vn vm x) (hm : x.metric ≠ 0) :
    Calls Try.prog 49 #[insV x vn vm] w fun e w' => e = .returned (.bool (matrixB x)) ∧ Below w.heap.size w w' := by
  rw [matrix_no hm]
  obtain ⟨an, cn, rfl, _⟩ := hx.nodes.dat
  obtain ⟨am, cm, rfl, _⟩ := hx.matrix.dat
  unfold insV
  have k1 : (x.metric != 0) = true := bne_iff_ne.2 hm
  generalize x.metric = k at k1 ⊢
  generalize x.nodes.length = L
  clear hx hm
  generalize x.matrix.length = M
  go_enter Try.func49, Try.ntmps49
  go_wp2
  go_ret
  exact ⟨cret_is (nat_beq (b := 0) _ rfl), below_box _ _⟩
theorem cwrap_mul {i n : Nat} (h : i * n ≤ 1000000000) : wrap64 ((i : Int) * (n : Int)) = ((i * n : Nat) : Int) := by
  rw [← Int.natCast_mul]
  generalize i * n = u at h
  unfold wrap64; omega
theorem sq_most {n : Nat} (h : n ≤ 400) : n * n ≤ 160000 := Nat.le_trans (Nat.mul_le_mul h h) (by omega)
theorem rem_beq {k L : Nat} (c : Bool) (h : decide (k % (L + 1) = 0) = c) : ((k : Int) % ((L : Int) + 1) == 0) = c := by
  rw [← h, ← nat_beq (b := 0) _ rfl]
  rfl
theorem all_next {f : Nat → Bool} {k : Nat} (h : (List.range k).all f = true) (hk : f k = true) : (List.range (k + 1)).all f = true := by rw [List.range_succ, List.all_append, h]; simp [hk]
theorem all_not {f : Nat → Bool} {k n : Nat} (h : k < n) (hk : f k = false) : (List.range n).all f = false := by
  rw [List.all_eq_false]; exact ⟨k, List.mem_range.2 h, by simp [hk]⟩
set_option maxRecDepth 100000 in
theorem Try.rmatrix_far (x : Ins) (vn vm : Value) (w : World) (hx : HasIns w vn vm x) (h4 : x.nodes.length ≤ 400) (hm : x.metric = 0) (hl : x.matrix.length ≠ x.nodes.length * x.nodes.length) :
    Calls Try.prog 49 #[insV x vn vm] w fun e w' => e = .returned (.bool (matrixB x)) ∧ Below w.heap.size w w' := by
  rw [matrix_yes hm, decide_eq_false hl, Bool.false_and]
  obtain ⟨an, cn, rfl, _⟩ := hx.nodes.dat
  obtain ⟨am, cm, rfl, _⟩ := hx.matrix.dat
  unfold insV
  rw [hm]
  have hw := cwrap_mul (i := x.nodes.length) (n := x.nodes.length) (Nat.le_trans (sq_most h4) (by omega))
  have hne := nat_bne true (decide_eq_false hl)
  generalize x.nodes.length * x.nodes.length = N at hw hne
  generalize x.nodes.length = L at *
  generalize x.matrix.length = M at *
  clear hx hm hl h4
  go_enter Try.func49, Try.ntmps49
  go_wp2
  go_ret
  exact ⟨rfl, below_box _ _⟩
set_option maxRecDepth 100000 in
set_option maxHeartbeats 1000000 in
theorem Try.rmatrix_yes (x : Ins) (vn vm : Value) (w : World) (hx : HasIns w vn vm x) (h4 : x.nodes.length ≤ 400) (h1 : 1 ≤ x.nodes.length) (hm : x.metric = 0) (hl : x.matrix.length = x.nodes.length * x.nodes.length) :
    Calls Try.prog 49 #[insV x vn vm] w fun e w' => e = .returned (.bool (matrixB x)) ∧ Below w.heap.size w w' := by
  rw [matrix_yes hm, decide_eq_true hl, Bool.true_and]
  obtain ⟨an, cn, rfl, _⟩ := hx.nodes.dat
  obtain ⟨b, off, cm, rfl, hcm, hmax, hM⟩ : ∃ b off cm, vm = .slice (some ⟨b, off, none⟩) x.matrix.length cm ∧ x.matrix.length ≤ cm ∧ cm ≤ maxLen ∧ NumsAt w b off x.matrix := by
    rcases hx.matrix with ⟨h0, _⟩ | h
    · rw [h0] at hl; have := Nat.mul_pos h1 h1; simp at hl; omega
    · exact h
  unfold insV
  rw [hm]
  have hw := cwrap_mul (i := x.nodes.length) (n := x.nodes.length) (Nat.le_trans (sq_most h4) (by omega))
  have hn := sq_most h4
  have HL := Lib.hid hl
  rw [hl]
  rw [hl] at hcm
  generalize x.nodes.length * x.nodes.length = N at *
  generalize x.nodes.length = L at *
  generalize x.matrix = l at *
  clear hx hm hl
  have HM := Lib.hid hM
  clear hM
  have Z := fun (v : Int) (w : World) => Try.rnumber_calls v w
  go_enter Try.func49, Try.ntmps49
  go_wp2
  rw [hw]
  go_loopw [4] (fun i wr => ∃ k : Nat, k ≤ N ∧ i = .int .i64 (k : Int) ∧ Hid ((List.range k).all (okAt l L) = true) ∧ wr = w.alloc (.cells #[.string x.name, .int .i64 x.kind, .int .i64 0, .int .i64 x.scale, .int .i64 x.cap, .int .i64 x.fleet, .slice an L cn, .slice (some ⟨b, off, none⟩) N cm] 33)) (fun i _ => N - (intOf i).toNat)
  case atStart => exact ⟨0, Nat.zero_le _, rfl, rfl, rfl⟩
  case round =>
    obtain ⟨k, hk, rfl, hT, rfl⟩ := hrel
    by_cases hlt : k < N
    · obtain ⟨v, hv⟩ : ∃ v, l[k]? = some v := ⟨_, List.getElem?_eq_getElem (by have := HL.out; omega)⟩
      have x0 := HM.out.2 k v hv
      have xb := HM.out.1
      have hki : (k : Int) < (N : Int) := by omega
      have hg : l.getD k 0 = v := by simp [List.getD, hv]
      have hok : okAt l L k = (number v && !(decide (k % (L + 1) = 0) && decide (v ≠ 0))) := by unfold okAt; rw [hg]
      have Zv := Z v
      clear Z hv hg
      generalize number v = nb at Zv hok
      cases nb with
      | false =>
        have HF := Lib.hid (all_not hlt (hok.trans (Bool.false_and _)))
        clear hok hT
        go_wp2_with (go_at_call 62; (with_reducible refine (Zv _).mono ?_); rintro e w1 ⟨rfl, hw1⟩; obtain rfl : _ = w1 := hw1.symm)
        go_ret
        exact ⟨cret_is HF.out.symm, below_box _ _⟩
      | true =>
        by_cases hr : k % (L + 1) = 0
        · have r0 : ((k : Int) % ((L : Int) + 1) == 0) = true := rem_beq true (decide_eq_true hr)
          rw [decide_eq_true hr, Bool.true_and] at hok
          by_cases hz : v = 0
          · subst hz
            have HF := Lib.hid (all_next hT.out (hok.trans (by simp)))
            clear hok hT hr
            go_wp2_with (go_at_call 62; (with_reducible refine (Zv _).mono ?_); rintro e w1 ⟨rfl, hw1⟩; obtain rfl : _ = w1 := hw1.symm)
            go_roundw
            case rel => exact ⟨k + 1, by omega, by go_num, HF, trivial⟩
            case measure => simp [intOf]; omega
          · have v0 : (v != 0) = true := bne_iff_ne.2 hz
            have HF := Lib.hid (all_not hlt (hok.trans (by simp [hz])))
            clear hok hT hr hz
            go_wp2_with (go_at_call 62; (with_reducible refine (Zv _).mono ?_); rintro e w1 ⟨rfl, hw1⟩; obtain rfl : _ = w1 := hw1.symm)
            go_ret
            exact ⟨cret_is HF.out.symm, below_box _ _⟩
        · have r0 : ((k : Int) % ((L : Int) + 1) == 0) = false := rem_beq false (decide_eq_false hr)
          rw [decide_eq_false hr, Bool.false_and] at hok
          have HF := Lib.hid (all_next hT.out (hok.trans (by simp)))
          clear hok hT hr
          go_wp2_with (go_at_call 62; (with_reducible refine (Zv _).mono ?_); rintro e w1 ⟨rfl, hw1⟩; obtain rfl : _ = w1 := hw1.symm)
          go_roundw
          case rel => exact ⟨k + 1, by omega, by go_num, HF, trivial⟩
          case measure => simp [intOf]; omega
    · obtain rfl : k = N := by omega
      go_wp2
      go_ret
      exact ⟨cret_is hT.out.symm, below_box _ _⟩
theorem Try.rmatrix_calls (x : Ins) (vn vm : Value) (w : World) (hx : HasIns w vn vm x) (h4 : x.nodes.length ≤ 400) (h1 : 1 ≤ x.nodes.length) :
    Calls Try.prog 49 #[insV x vn vm] w fun e w' => e = .returned (.bool (matrixB x)) ∧ Below w.heap.size w w' := by
  by_cases hm : x.metric = 0
  · by_cases hl : x.matrix.length = x.nodes.length * x.nodes.length
    · exact Try.rmatrix_yes x vn vm w hx h4 h1 hm hl
    · exact Try.rmatrix_far x vn vm w hx h4 hm hl
  · exact Try.rmatrix_no x vn vm w hx hm
end Go.Proofs
/- The document's own comparison of faults, and the law's faults. Conditions: two thousand at most. -/
namespace Go.Proofs
open Go.RowKit Go.Shelf Go.Canon
attribute [local go_sem] Oper.semAt_some

theorem Try.info61 : (Try.prog.info? 61).map (fun i => (i.zero, i.size, i.bytes)) = some (some (.agg #[.int .i64 0, .int .i64 0]), 2, 16) := by kernel_rfl
theorem ctake_same {α : Type} {l r : List α} {k : Nat} {x : α} (hl : l[k]? = some x) (hr : r[k]? = some x) (h : l.take k = r.take k) : l.take (k + 1) = r.take (k + 1) := by
  rw [ctake_get hl, ctake_get hr, h]
theorem cne_at {α : Type} {l r : List α} {k : Nat} {x y : α} (hl : l[k]? = some x) (hr : r[k]? = some y) (h : x ≠ y) : l ≠ r := fun e => h (by rw [e, hr] at hl; exact (Option.some.inj hl).symm)
theorem cne_len {α : Type} {l r : List α} (h : l.length ≠ r.length) : l ≠ r := fun e => h (by rw [e])
theorem cells_pair (W : World) (a b : Value) (t : TypeId) : ∀ (j : Nat) (u : Value), [a, b][j]? = some u → (W.alloc (.cells #[a, b] t)).cell? ((⟨W.heap.size, 0, none⟩ : Addr).add j) = some u := by
  intro j u h
  rw [Addr.add_lit, Nat.zero_add]
  have hh := World.alloc_heap_new W (.cells #[a, b] t)
  rcases j with _ | _ | j
  · have e : a = u := by simpa using h
    subst e; unfold World.cell?; simp only [hh]; rfl
  · have e : b = u := by simpa using h
    subst e; unfold World.cell?; simp only [hh]; rfl
  · simp at h
end Go.Proofs
/- The document's own Same of instances. Conditions: lists of at most a million. -/
namespace Go.Canon
theorem Ins.ext' {a b : Ins} (h1 : a.name = b.name) (h2 : a.kind = b.kind) (h3 : a.metric = b.metric) (h4 : a.scale = b.scale) (h5 : a.cap = b.cap) (h6 : a.fleet = b.fleet) (h7 : a.nodes = b.nodes) (h8 : a.matrix = b.matrix) : a = b := by
  cases a; cases b; simp_all
instance : DecidableEq Ins := fun a b =>
  if h : a.name = b.name ∧ a.kind = b.kind ∧ a.metric = b.metric ∧ a.scale = b.scale ∧ a.cap = b.cap ∧ a.fleet = b.fleet ∧ a.nodes = b.nodes ∧ a.matrix = b.matrix then
    isTrue (Ins.ext' h.1 h.2.1 h.2.2.1 h.2.2.2.1 h.2.2.2.2.1 h.2.2.2.2.2.1 h.2.2.2.2.2.2.1 h.2.2.2.2.2.2.2)
  else isFalse fun e => h (by rw [e]; exact ⟨rfl, rfl, rfl, rfl, rfl, rfl, rfl, rfl⟩)
end Go.Canon
namespace Go.Proofs
open Go.RowKit Go.Shelf Go.Canon
attribute [local go_sem] Oper.semAt_some

theorem ctoList_ne {a b : ByteArray} (h : ¬ a = b) : ¬ a.toList = b.toList := fun e => by
  rw [ByteArray.toList_eq, ByteArray.toList_eq] at e
  cases a; cases b
  exact h (congrArg ByteArray.mk (Array.toList_inj.1 e))
/-- The second and the last part of two boxes. -/
structure Box2 (W : World) (g : Nat) (va vb vc vd : Value) : Prop where
  a6 : W.cell? ⟨g, 6, none⟩ = some va
  a7 : W.cell? ⟨g, 7, none⟩ = some vb
  b6 : W.cell? ⟨g + 1, 6, none⟩ = some vc
  b7 : W.cell? ⟨g + 1, 7, none⟩ = some vd
theorem Box2.drewN {W : World} {g : Nat} {va vb vc vd : Value} (h : Box2 W g va vb vc vd) (n : Nat) : Box2 (W.drewN n) g va vb vc vd := ⟨h.a6, h.a7, h.b6, h.b7⟩
theorem cell_new (W : World) (cs : Array Value) (t : TypeId) (j : Nat) : (W.alloc (.cells cs t)).cell? ⟨W.heap.size, j, none⟩ = cs[j]? := by
  unfold World.cell?
  rw [World.alloc_heap_new]
  rfl
theorem cell_new' (W : World) (o : Obj) (cs : Array Value) (t : TypeId) (j : Nat) : ((W.alloc o).alloc (.cells cs t)).cell? ⟨W.heap.size + 1, j, none⟩ = cs[j]? := by
  have h := cell_new (W.alloc o) cs t j
  have e : (W.alloc o).heap.size = W.heap.size + 1 := by show (W.heap.push o).size = _; simp
  rw [e] at h; exact h
theorem cell_old' (W : World) (o : Obj) (cs : Array Value) (t : TypeId) (j : Nat) : ((W.alloc (.cells cs t)).alloc o).cell? ⟨W.heap.size, j, none⟩ = cs[j]? := by
  have e : (W.alloc (.cells cs t)).heap.size = W.heap.size + 1 := by show (W.heap.push _).size = _; simp
  exact ((below_box (W.alloc (.cells cs t)) o).cell (p := ⟨W.heap.size, j, none⟩) (by rw [e]; exact Nat.lt_succ_self _)).trans (cell_new W cs t j)
theorem ndne {a b : Nd} (h : a ≠ b) : (a.x ≠ b.x) ∨ (a.x = b.x ∧ a.y ≠ b.y) ∨ (a.x = b.x ∧ a.y = b.y ∧ a.demand ≠ b.demand) ∨ (a.x = b.x ∧ a.y = b.y ∧ a.demand = b.demand ∧ a.ready ≠ b.ready) ∨ (a.x = b.x ∧ a.y = b.y ∧ a.demand = b.demand ∧ a.ready = b.ready ∧ a.due ≠ b.due) ∨ (a.x = b.x ∧ a.y = b.y ∧ a.demand = b.demand ∧ a.ready = b.ready ∧ a.due = b.due ∧ a.service ≠ b.service) ∨ (a.x = b.x ∧ a.y = b.y ∧ a.demand = b.demand ∧ a.ready = b.ready ∧ a.due = b.due ∧ a.service = b.service ∧ a.mate ≠ b.mate) := by
  obtain ⟨a0, a1, a2, a3, a4, a5, a6⟩ := a
  obtain ⟨b0, b1, b2, b3, b4, b5, b6⟩ := b
  simp only [ne_eq, Nd.mk.injEq] at h ⊢
  by_cases h0 : a0 = b0 <;> by_cases h1 : a1 = b1 <;> by_cases h2 : a2 = b2 <;> by_cases h3 : a3 = b3 <;> by_cases h4 : a4 = b4 <;> by_cases h5 : a5 = b5 <;> by_cases h6 : a6 = b6 <;> simp_all
end Go.Proofs
/- The law's its: an instance as the references have it. Conditions: a million nodes at most. -/
namespace Go
open Go.RowKit
/-- append onto a row of the call's own (or onto nothing), as a step of a region that draws. -/
theorem step_append_any {P : Program} {w : World} {ops : Array Oper} {o : Oper} {a : Act} {K : Act → World → Prop} {Q : Exit → Act → World → Prop} {E : Prop} (hgd : o.guard = none) (s x : Operand) (t : TypeId)
    (ho : o.op = .call { callee := .builtin .append, args := #[s, x], argTypes := #[t, t] })
    (base : Nat) (e : TypeId) (i : TypeInfo) (z : Value) (size bytes : Nat) (ht : P.underlying t = some (.slice e)) (hi : P.info? e = some i) (hz : i.zero = some z)
    (hsize : i.size = size) (hby : i.bytes = bytes) (hzs : z.cells.size = size) (hsz : 0 < size)
    (v : Value) (n : Nat) (xs : List Value) (hs : a.eval s = v) (hown : w.ownsRow base e size v n xs)
    (ad : Addr) (m c : Nat) (news : List Value) (hx : a.eval x = .slice (some ad) m c) (hl : news.length = m * size) (hnews : ∀ j u, news[j]? = some u → w.cell? (ad.add j) = some u) (h1 : ∀ u ∈ news, u.oneCell' = true)
    (h63 : n + m ≤ maxLen) (hbytes : (n + m) * bytes ≤ 140737488355328) (hbase : base ≤ w.heap.size)
    (h : ∀ v' w', w'.ownsRow base e size v' (n + m) (xs ++ news) → w.grownBy w' v.ownBlock → K (a.put o.dst v') w') :
    if Region.wanted o (yielded ops a.tmps) = true then Oper.wp P o a w K Q else E := by
  have hw : Region.wanted o (yielded ops a.tmps) = true := by simp [Region.wanted, hgd]
  rw [if_pos hw]
  exact wp_append_own w s x t ho base e i z size bytes ht hi hz hsize hby hzs hsz v n xs hs hown ad m c news hx hl hnews h1 h63 hbytes hbase fun v' w' h2 h3 _ => h v' w' h2 h3
end Go
namespace Go.Proofs
open Go.RowKit Go.Shelf Go.Canon
attribute [local go_sem] Oper.semAt_some

theorem Try.info48 : (Try.prog.info? 48).map (fun i => (i.zero, i.size, i.bytes)) = some (some (.agg #[.int .i64 0, .int .i64 0, .int .i64 0, .int .i64 0, .int .i64 0, .int .i64 0, .int .i64 0]), 7, 56) := by kernel_rfl
theorem cbelow_drew {B : Nat} {a w : World} (h : Below B a w) : Below B a w.drew := ⟨h.os, h.tape, h.output, h.size, h.block⟩
theorem cowns_drew {W : World} {base : Nat} {e : TypeId} {size : Nat} {v : Value} {c : Nat} {xs : List Value} (h : W.ownsRow base e size v c xs) : W.drew.ownsRow base e size v c xs := h
theorem cells_arr (W : World) (cs : Array Value) (t : TypeId) : ∀ (j : Nat) (u : Value), cs.toList[j]? = some u → (W.alloc (.cells cs t)).cell? ((⟨W.heap.size, 0, none⟩ : Addr).add j) = some u := by
  intro j u h
  rw [Addr.add_lit, Nat.zero_add, cell_new]
  simpa using h
/-- What stands in the middle of its: the boxes, and the nodes so far. -/
structure ItsS (w : World) (x : Ins) (vn vm : Value) (W : World) (v : Value) (l : List Nd) : Prop where
  row : W.ownsRow (w.heap.size + 3) 48 7 v l.length (l.flatMap ndC)
  p6 : W.cell? ⟨w.heap.size, 6, none⟩ = some vn
  rb : W.heap[w.heap.size + 1]? = some (.cells #[.string ⟨#[]⟩, .int .i64 0, .int .i64 0, .int .i64 0, .int .i64 0, .int .i64 0, .slice none 0 0, .slice none 0 0] 33)
  yb : W.heap[w.heap.size + 2]? = some (.cells #[.string x.name, .int .i64 x.kind, .int .i64 x.metric, .int .i64 x.scale, .int .i64 x.cap, .int .i64 x.fleet, v, vm] 33)
  sz : w.heap.size + 3 ≤ W.heap.size
  below : Below w.heap.size w W
theorem its_start (w : World) (x : Ins) (vn vm : Value) (t : TypeId) : ItsS w x vn vm (((w.alloc (.cells #[.string x.name, .int .i64 x.kind, .int .i64 x.metric, .int .i64 x.scale, .int .i64 x.cap, .int .i64 x.fleet, vn, vm] t)).alloc (.cells #[.string ⟨#[]⟩, .int .i64 0, .int .i64 0, .int .i64 0, .int .i64 0, .int .i64 0, .slice none 0 0, .slice none 0 0] 33)).alloc (.cells #[.string x.name, .int .i64 x.kind, .int .i64 x.metric, .int .i64 x.scale, .int .i64 x.cap, .int .i64 x.fleet, .slice none 0 0, vm] 33)) (.slice none 0 0) [] := by
  generalize hA : Obj.cells #[.string x.name, .int .i64 x.kind, .int .i64 x.metric, .int .i64 x.scale, .int .i64 x.cap, .int .i64 x.fleet, vn, vm] t = A
  generalize hB : Obj.cells #[Value.string ⟨#[]⟩, .int .i64 0, .int .i64 0, .int .i64 0, .int .i64 0, .int .i64 0, .slice none 0 0, .slice none 0 0] 33 = B
  generalize hC : Obj.cells #[Value.string x.name, .int .i64 x.kind, .int .i64 x.metric, .int .i64 x.scale, .int .i64 x.cap, .int .i64 x.fleet, .slice none 0 0, vm] 33 = C
  have s1 : (w.alloc A).heap.size = w.heap.size + 1 := by show (w.heap.push _).size = _; simp
  have s2 : ((w.alloc A).alloc B).heap.size = w.heap.size + 2 := by show (Array.push _ _).size = _; rw [Array.size_push, s1]
  have s3 : (((w.alloc A).alloc B).alloc C).heap.size = w.heap.size + 3 := by show (Array.push _ _).size = _; rw [Array.size_push, s2]
  have B3 : Below ((w.alloc A).alloc B).heap.size ((w.alloc A).alloc B) (((w.alloc A).alloc B).alloc C) := below_box _ _
  have B2 : Below (w.alloc A).heap.size (w.alloc A) (((w.alloc A).alloc B).alloc C) := below_two _ _ _
  refine ⟨World.ownsRow_nil _ _ _ _, ?_, ?_, ?_, by rw [s3]; exact Nat.le_refl _, (below_two w A B).alloc (by rw [s2]; omega) C⟩
  · have h := cell_new w #[.string x.name, .int .i64 x.kind, .int .i64 x.metric, .int .i64 x.scale, .int .i64 x.cap, .int .i64 x.fleet, vn, vm] t 6
    rw [hA] at h
    exact (B2.cell (p := ⟨w.heap.size, 6, none⟩) (by rw [s1]; exact Nat.lt_succ_self _)).trans h
  · have h := World.alloc_heap_new (w.alloc A) B
    rw [s1] at h
    rw [B3.block (w.heap.size + 1) (by rw [s2]; omega), h, hB]
  · have h := World.alloc_heap_new ((w.alloc A).alloc B) C
    rw [s2] at h
    rw [h, hC]
theorem ItsS.y {w W : World} {x : Ins} {vn vm v : Value} {l : List Nd} (h : ItsS w x vn vm W v l) (j : Nat) : W.cell? ⟨w.heap.size + 2, j, none⟩ = (#[Value.string x.name, .int .i64 x.kind, .int .i64 x.metric, .int .i64 x.scale, .int .i64 x.cap, .int .i64 x.fleet, v, vm] : Array Value)[j]? := by
  unfold World.cell?; rw [h.yb]; rfl
theorem ItsS.keep {w W W' W1 : World} {x : Ins} {vn vm v : Value} {l : List Nd} (h : ItsS w x vn vm W v l) (hb : Below W.heap.size W W') (hgrow : W'.grownBy W1 v.ownBlock) : ∀ k, k < w.heap.size + 3 → W1.heap[k]? = W.heap[k]? := by
  intro k hk
  have hs := h.sz
  rw [hgrow.block k (Nat.lt_of_lt_of_le (by omega) hb.size) (fun e => by have := (h.row.lt k e.symm).1; omega), hb.block k (by omega)]
theorem ItsS.add {w W W' W1 : World} {x : Ins} {vn vm v v' : Value} {l : List Nd} {d : Nd} (h : ItsS w x vn vm W v l) (hown' : W1.ownsRow (w.heap.size + 3) 48 7 v' (l.length + 1) (l.flatMap ndC ++ ndC d)) (hb : Below W.heap.size W W') (hgrow : W'.grownBy W1 v.ownBlock) : ItsS w x vn vm (W1.setCell ⟨w.heap.size + 2, 6, none⟩ v') v' (l ++ [d]) := by
  have hk := h.keep hb hgrow
  have hs := h.sz
  have hss : (W1.setCell ⟨w.heap.size + 2, 6, none⟩ v').heap.size = W1.heap.size := by simp [World.setCell]
  have h1s : W.heap.size ≤ W1.heap.size := Nat.le_trans hb.size hgrow.size
  have hset : ∀ k, k ≠ w.heap.size + 2 → (W1.setCell ⟨w.heap.size + 2, 6, none⟩ v').heap[k]? = W1.heap[k]? := fun k hk => Below.heap_setCell _ _ _ _ hk
  refine ⟨?_, ?_, ?_, ?_, by omega, ?_⟩
  · rw [flat_snoc, List.length_append]
    exact hown'.kept (row := some (w.heap.size + 2)) ⟨rfl, rfl, rfl, by omega, fun k _ hk => hset k (fun e => hk (by rw [e]))⟩ (.inr fun e => by have := (hown'.lt _ e).1; omega)
  · exact (World.cell?_of_block (a := ⟨w.heap.size, 6, none⟩) ((hset _ (by simp)).trans (hk _ (by simp)))).trans h.p6
  · exact ((hset _ (by omega)).trans (hk _ (by omega))).trans h.rb
  · have e : W1.heap[w.heap.size + 2]? = _ := (hk _ (by omega)).trans h.yb
    simp [World.setCell, Array.getElem?_modify, e]
  · exact ⟨hgrow.os.trans (hb.os.trans h.below.os), hgrow.tape.trans (hb.tape.trans h.below.tape), hgrow.output.trans (hb.output.trans h.below.output), by have := h.below.size; omega, fun k hk' => (hset k (by omega)).trans ((hk k (by omega)).trans (h.below.block k hk'))⟩
theorem owns_set {W : World} {base : Nat} {e : TypeId} {size : Nat} {v : Value} {k : Nat} {xs : List Value} (h : W.ownsRow base e size v k xs) {a : Addr} (ha : a.block < base) (u : Value) : (W.setCell a u).ownsRow base e size v k xs :=
  h.kept (row := some a.block) ⟨rfl, rfl, rfl, by simp [World.setCell], fun k _ hk => Below.heap_setCell _ _ _ _ (fun e => hk (by rw [e]))⟩ (.inr fun e => by have := (h.lt _ e).1; omega)
theorem its_ret {W : World} {base g : Nat} {e : TypeId} {size : Nat} {v : Value} {k : Nat} {xs : List Value} (h : W.ownsRow base e size v k xs) (hg : g < base) (u0 u1 u2 u3 u4 u5 u6 u7 : Value) : ((((((((W.setCell ⟨g, 0, none⟩ u0).setCell ⟨g, 1, none⟩ u1).setCell ⟨g, 2, none⟩ u2).setCell ⟨g, 3, none⟩ u3).setCell ⟨g, 4, none⟩ u4).setCell ⟨g, 5, none⟩ u5).setCell ⟨g, 6, none⟩ u6).setCell ⟨g, 7, none⟩ u7).ownsRow base e size v k xs :=
  owns_set (owns_set (owns_set (owns_set (owns_set (owns_set (owns_set (owns_set h hg _) hg _) hg _) hg _) hg _) hg _) hg _) hg _
end Go.Proofs
