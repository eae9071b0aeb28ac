/- slices.Equal at nodes and at numbers, and the program's Same. Conditions: lists of at most a million. -/
import Derived.Test.YtogpnkahgkidpaaCanonSame
import Derived.Test.YtogpnkahgkidpaaCanonNorm
import Derived.Test.YtogpnkahgkidpaaShelf
namespace Go.Proofs
open Go.RowKit Go.Shelf Go.Canon
attribute [local go_sem] Oper.semAt_some

set_option maxRecDepth 100000 in
set_option maxHeartbeats 4000000 in
theorem Try.equalNodes_calls (va vb : Value) (l r : List Nd) (w : World) (ha : HasNodes w va l) (hb : HasNodes w vb r) (h1 : l.length ≤ 1000000) :
    Calls Try.prog 39 #[va, vb] w fun e w' => e = .returned (.bool (decide (l = r))) ∧ Below w.heap.size w w' := by
  obtain ⟨an, cn, rfl, hx⟩ := ha.dat
  obtain ⟨bn, dn, rfl, hy⟩ := hb.dat
  clear ha hb
  by_cases hl : l.length = r.length
  · have HX := Lib.hid hx
    have HY := Lib.hid hy
    rw [← hl]
    obtain ⟨n, hn⟩ : ∃ n, l.length = n := ⟨_, rfl⟩
    rw [hn] at h1 hl ⊢
    have HN := Lib.hid hn
    have HN2 := Lib.hid hl
    have hne : ((n : Int) != (n : Int)) = false := by simp
    clear hx hy hn hl
    go_enter Try.func39, Try.ntmps39
    go_wp2
    go_loopw [13] (fun i wr => ∃ k : Nat, k ≤ n ∧ i = .int .i64 (k : Int) ∧ Hid (l.take k = r.take k) ∧ Below w.heap.size w wr) (fun i _ => n - (intOf i).toNat)
    case atStart => exact ⟨0, Nat.zero_le _, rfl, rfl, Below.refl _ _⟩
    case round =>
      obtain ⟨k, hk, rfl, hT, hB⟩ := hrel
      by_cases hlt : k < n
      · rcases HX.out with h0 | ⟨b, off, rfl, hd⟩
        · have := HN.out; rw [h0] at this; simp at this; omega
        rcases HY.out with h0 | ⟨b', off', rfl, hd'⟩
        · have := HN2.out; rw [h0] at this; simp at this; omega
        obtain ⟨x, hx⟩ : ∃ x, l[k]? = some x := ⟨_, List.getElem?_eq_getElem (by have := HN.out; omega)⟩
        obtain ⟨y, hy⟩ : ∃ y, r[k]? = some y := ⟨_, List.getElem?_eq_getElem (by have := HN2.out; omega)⟩
        obtain ⟨x0, x1, x2, x3, x4, x5, x6⟩ := (hd.2 k x hx).below hB hd.1
        obtain ⟨y0, y1, y2, y3, y4, y5, y6⟩ := (hd'.2 k y hy).below hB hd'.1
        have hki : (k : Int) < (n : Int) := by omega
        clear hd hd'
        by_cases hxy : x = y
        · subst hxy
          have HT := Lib.hid (ctake_same hx hy hT.out)
          clear hx hy hT
          go_wp2
          go_quiet (fail)
          go_wp2
          go_roundw
          case rel => exact ⟨k + 1, by omega, by go_num, HT, cbelow_drewN hB _⟩
          case measure => simp [intOf]; omega
        · have HF := Lib.hid (decide_eq_false (cne_at hx hy hxy))
          have HD := Lib.hid (ndne hxy)
          clear hx hy hT hxy
          obtain ⟨p0, p1, p2, p3, p4, p5, p6⟩ := x
          obtain ⟨q0, q1, q2, q3, q4, q5, q6⟩ := y
          dsimp only at x0 x1 x2 x3 x4 x5 x6 y0 y1 y2 y3 y4 y5 y6
          rcases HD.out with h0 | ⟨h0, h1⟩ | ⟨h0, h1, h2⟩ | ⟨h0, h1, h2, h3⟩ | ⟨h0, h1, h2, h3, h4⟩ | ⟨h0, h1, h2, h3, h4, h5⟩ | ⟨h0, h1, h2, h3, h4, h5, h6⟩ <;> dsimp only at *
          · have d : (p0 == q0) = false := beq_eq_false_iff_ne.2 h0
            clear h0 HD
            go_wp2
            go_quiet (fail)
            go_wp2
            go_ret
            exact ⟨cret_is HF.out.symm, cbelow_drewN hB _⟩
          · subst h0; have d : (p1 == q1) = false := beq_eq_false_iff_ne.2 h1
            clear h1 HD
            go_wp2
            go_quiet (fail)
            go_wp2
            go_ret
            exact ⟨cret_is HF.out.symm, cbelow_drewN hB _⟩
          · subst h0; subst h1; have d : (p2 == q2) = false := beq_eq_false_iff_ne.2 h2
            clear h2 HD
            go_wp2
            go_quiet (fail)
            go_wp2
            go_ret
            exact ⟨cret_is HF.out.symm, cbelow_drewN hB _⟩
          · subst h0; subst h1; subst h2; have d : (p3 == q3) = false := beq_eq_false_iff_ne.2 h3
            clear h3 HD
            go_wp2
            go_quiet (fail)
            go_wp2
            go_ret
            exact ⟨cret_is HF.out.symm, cbelow_drewN hB _⟩
          · subst h0; subst h1; subst h2; subst h3; have d : (p4 == q4) = false := beq_eq_false_iff_ne.2 h4
            clear h4 HD
            go_wp2
            go_quiet (fail)
            go_wp2
            go_ret
            exact ⟨cret_is HF.out.symm, cbelow_drewN hB _⟩
          · subst h0; subst h1; subst h2; subst h3; subst h4; have d : (p5 == q5) = false := beq_eq_false_iff_ne.2 h5
            clear h5 HD
            go_wp2
            go_quiet (fail)
            go_wp2
            go_ret
            exact ⟨cret_is HF.out.symm, cbelow_drewN hB _⟩
          · subst h0; subst h1; subst h2; subst h3; subst h4; subst h5; have d : (p6 == q6) = false := beq_eq_false_iff_ne.2 h6
            clear h6 HD
            go_wp2
            go_quiet (fail)
            go_wp2
            go_ret
            exact ⟨cret_is HF.out.symm, cbelow_drewN hB _⟩
      · obtain rfl : k = n := by omega
        have HF : Hid (decide (l = r) = true) := by
          have e := hT.out
          rw [List.take_of_length_le (Nat.le_of_eq HN.out), List.take_of_length_le (Nat.le_of_eq HN2.out.symm)] at e
          exact decide_eq_true e
        go_wp2
        go_ret
        exact ⟨cret_is HF.out.symm, hB⟩
  · have HF := Lib.hid (decide_eq_false (cne_len hl))
    have hne := nat_bne true (decide_eq_false hl)
    clear hx hy hl
    generalize l.length = n at *
    generalize r.length = m at *
    go_enter Try.func39, Try.ntmps39
    go_wp2
    go_ret
    exact ⟨cret_is HF.out.symm, Below.refl _ _⟩
theorem nums_getD {W : World} {b off : Nat} {l : List Int} (h : NumsAt W b off l) : ∀ j, j < l.length → W.cell? ⟨b, off + j, none⟩ = some (.int .i64 (l.getD j 0)) := fun j hj => by
  have e : l[j]? = some (l.getD j 0) := by simp [List.getD, hj]
  exact h.2 j _ e
theorem Try.equalInts_calls (va vb : Value) (l r : List Int) (w : World) (ha : HasNums w va l) (hb : HasNums w vb r) (h1 : l.length ≤ 1000000) (h2 : r.length ≤ 1000000) :
    Calls Try.prog 40 #[va, vb] w fun e w' => e = .returned (.bool (decide (l = r))) ∧ Below w.heap.size w w' := by
  by_cases hl : l.length = r.length
  · rcases ha with ⟨rfl, ao, c, rfl⟩ | ⟨b, off, c, rfl, _, _, ha⟩
    · obtain ⟨bo, d, rfl, _⟩ := hb.dat
      obtain rfl : r = [] := List.length_eq_zero_iff.1 hl.symm
      refine (Try.slices_Equal_int_empty ao bo c 0 d w (by decide)).mono ?_
      rintro e w' ⟨rfl, hw⟩
      obtain rfl : w = w' := hw.symm
      exact ⟨rfl, Below.refl _ _⟩
    · rcases hb with ⟨rfl, ao, d, rfl⟩ | ⟨b', off', d, rfl, _, _, hb⟩
      · obtain rfl : l = [] := List.length_eq_zero_iff.1 hl
        refine (Try.slices_Equal_int_empty _ ao c 0 d w (by decide)).mono ?_
        rintro e w' ⟨rfl, hw⟩
        obtain rfl : w = w' := hw.symm
        exact ⟨rfl, Below.refl _ _⟩
      · refine (Try.slices_Equal_int b off l.length c b' off' r.length d l r w (Nat.le_refl _) (Nat.le_refl _) (by omega) (by omega) (nums_getD ha) (nums_getD hb)).mono ?_
        rintro e w' ⟨rfl, q, hw⟩
        obtain rfl : _ = w' := hw.symm
        refine ⟨?_, cbelow_drewN (Below.refl _ _) _⟩
        rw [List.take_length, List.take_length]
        exact cret_is (by rw [Bool.eq_iff_iff]; simp)
  · obtain ⟨ao, c, rfl, _⟩ := ha.dat
    obtain ⟨bo, d, rfl, _⟩ := hb.dat
    refine (Try.slices_Equal_int_lens ao bo _ c _ d w hl).mono ?_
    rintro e w' ⟨rfl, hw⟩
    obtain rfl : w = w' := hw.symm
    exact ⟨cret_is (decide_eq_false (cne_len hl)).symm, Below.refl _ _⟩
theorem ins_dec (x y : Ins) : decide (x = y) = (decide (x.name = y.name) && decide (x.kind = y.kind) && decide (x.metric = y.metric) && decide (x.scale = y.scale) && decide (x.cap = y.cap) && decide (x.fleet = y.fleet) && decide (x.nodes = y.nodes) && decide (x.matrix = y.matrix)) := by
  obtain ⟨n1, k1, m1, s1, c1, f1, l1, t1⟩ := x
  obtain ⟨n2, k2, m2, s2, c2, f2, l2, t2⟩ := y
  rw [Bool.eq_iff_iff]
  simp [and_assoc]
set_option maxRecDepth 100000 in
set_option maxHeartbeats 4000000 in
theorem Try.same_calls (x y : Ins) (un um vn vm : Value) (w : World) (hx : HasIns w un um x) (hy : HasIns w vn vm y) (h1 : x.nodes.length ≤ 1000000) (h3 : x.matrix.length ≤ 1000000) (h4 : y.matrix.length ≤ 1000000) :
    Calls Try.prog 20 #[insV x un um, insV y vn vm] w fun e w' => e = .returned (.bool (decide (x = y))) ∧ Below w.heap.size w w' := by
  have HE := Lib.hid (ins_dec x y)
  have HNE := Lib.hid (fun W h => Try.equalNodes_calls un vn x.nodes y.nodes W (hx.nodes.next h) (hy.nodes.next h) h1)
  have HME := Lib.hid (fun W h => Try.equalInts_calls um vm x.matrix y.matrix W (hx.matrix.next h) (hy.matrix.next h) h3 h4)
  obtain ⟨an, cn, rfl, _⟩ := hx.nodes.dat
  obtain ⟨am, cm, rfl, _⟩ := hx.matrix.dat
  obtain ⟨bn, dn, rfl, _⟩ := hy.nodes.dat
  obtain ⟨bm, dm, rfl, _⟩ := hy.matrix.dat
  unfold insV
  clear hx hy h1 h3 h4
  generalize decide (x = y) = res at *
  generalize decide (x.nodes = y.nodes) = e7 at *
  generalize decide (x.matrix = y.matrix) = e8 at *
  generalize x.nodes.length = L1 at *
  generalize y.nodes.length = L2 at *
  generalize x.matrix.length = M1 at *
  generalize y.matrix.length = M2 at *
  obtain ⟨n1, k1, m1, s1, c1, f1, l1, t1⟩ := x
  obtain ⟨n2, k2, m2, s2, c2, f2, l2, t2⟩ := y
  dsimp only at *

  by_cases h0 : n1 = n2
  rotate_left
  · have HF : Hid (res = false) := HE.out.trans (by rw [decide_eq_false h0]; simp)
    have d : ¬ n1.toList = n2.toList := ctoList_ne h0
    clear h0 HE
    go_enter Try.func20, Try.ntmps20
    go_wp2
    go_ret
    exact ⟨cret_is HF.out.symm, below_two _ _ _⟩
  subst h0
  by_cases h1 : k1 = k2
  rotate_left
  · have HF : Hid (res = false) := HE.out.trans (by rw [decide_eq_false h1]; simp)
    have d : (k1 == k2) = false := beq_eq_false_iff_ne.2 h1
    clear h1 HE
    go_enter Try.func20, Try.ntmps20
    go_wp2
    go_ret
    exact ⟨cret_is HF.out.symm, below_two _ _ _⟩
  subst h1
  by_cases h2 : m1 = m2
  rotate_left
  · have HF : Hid (res = false) := HE.out.trans (by rw [decide_eq_false h2]; simp)
    have d : (m1 == m2) = false := beq_eq_false_iff_ne.2 h2
    clear h2 HE
    go_enter Try.func20, Try.ntmps20
    go_wp2
    go_ret
    exact ⟨cret_is HF.out.symm, below_two _ _ _⟩
  subst h2
  by_cases h3 : s1 = s2
  rotate_left
  · have HF : Hid (res = false) := HE.out.trans (by rw [decide_eq_false h3]; simp)
    have d : (s1 == s2) = false := beq_eq_false_iff_ne.2 h3
    clear h3 HE
    go_enter Try.func20, Try.ntmps20
    go_wp2
    go_ret
    exact ⟨cret_is HF.out.symm, below_two _ _ _⟩
  subst h3
  by_cases h4 : c1 = c2
  rotate_left
  · have HF : Hid (res = false) := HE.out.trans (by rw [decide_eq_false h4]; simp)
    have d : (c1 == c2) = false := beq_eq_false_iff_ne.2 h4
    clear h4 HE
    go_enter Try.func20, Try.ntmps20
    go_wp2
    go_ret
    exact ⟨cret_is HF.out.symm, below_two _ _ _⟩
  subst h4
  by_cases h5 : f1 = f2
  rotate_left
  · have HF : Hid (res = false) := HE.out.trans (by rw [decide_eq_false h5]; simp)
    have d : (f1 == f2) = false := beq_eq_false_iff_ne.2 h5
    clear h5 HE
    go_enter Try.func20, Try.ntmps20
    go_wp2
    go_ret
    exact ⟨cret_is HF.out.symm, below_two _ _ _⟩
  subst h5
  have HF : Hid (res = (e7 && e8)) := HE.out.trans (by simp)
  clear HE
  go_enter Try.func20, Try.ntmps20
  go_wp2_with (fail)
  refine (HNE.out _ (below_two _ _ _)).mono ?_
  rintro e w1 ⟨rfl, hb1⟩
  have hB := (below_two _ _ _).trans (hb1.mono (below_two _ _ _).size)
  have hlt : w.heap.size + 2 ≤ w1.heap.size := Nat.le_trans (by show _ ≤ (Array.push (Array.push _ _) _).size; simp) hb1.size
  have z7 : w1.cell? ⟨w.heap.size, 7, none⟩ = some (.slice am M1 cm) := (hb1.cell (p := ⟨w.heap.size, 7, none⟩) (by show _ < (Array.push (Array.push _ _) _).size; simp; omega)).trans (cell_old' _ _ _ _ _)
  have z8 : w1.cell? ⟨w.heap.size + 1, 7, none⟩ = some (.slice bm M2 dm) := (hb1.cell (p := ⟨w.heap.size + 1, 7, none⟩) (by show w.heap.size + 1 < (Array.push (Array.push _ _) _).size; rw [Array.size_push, Array.size_push]; omega)).trans (cell_new' _ _ _ _ _)
  clear hb1
  cases e7 with
  | false =>
    go_wp2
    go_ret
    exact ⟨cret_is (by rw [HF.out]; rfl), hB⟩
  | true =>
    go_wp2_with (fail)
    refine (HME.out _ hB).mono ?_
    rintro e w2 ⟨rfl, hb2⟩
    go_wp2
    go_ret
    exact ⟨cret_is (by rw [HF.out]; rfl), hB.trans (hb2.mono hB.size)⟩
end Go.Proofs
