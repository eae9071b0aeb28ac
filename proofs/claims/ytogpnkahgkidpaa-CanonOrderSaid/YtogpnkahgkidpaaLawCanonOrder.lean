/- The law CanonOrder of layer 8, as a contract: it answers true at every instance. Conditions: none. -/
import Derived.Test.YtogpnkahgkidpaaCanonLaw
namespace Go.Canon
/-- What a fault that stands behind another one is. -/
theorem behind {a b c d : Nat} (h : key (a, b) < key (c, d)) (hp : (1 ≤ a ∧ a ≤ 8 ∧ b = 0) ∨ (9 ≤ a ∧ a ≤ 13)) (hf : (1 ≤ c ∧ c ≤ 8 ∧ d = 0) ∨ (9 ≤ c ∧ c ≤ 13)) :
    (c ≤ 8 ∧ a ≤ 8 ∧ a < c ∧ b = d) ∨ (9 ≤ c ∧ a ≤ 8 ∧ a < c) ∨ (9 ≤ c ∧ 9 ≤ a ∧ b ≤ d ∧ (b = d → a < c)) := by
  unfold key at h
  dsimp only at h
  split at h <;> split at h <;> omega
end Go.Canon
namespace Go.Proofs
open Go.RowKit Go.Shelf Go.Canon
attribute [local go_sem] Oper.semAt_some

set_option maxRecDepth 100000 in
theorem Try.CanonOrder_long (x : Ins) (vn vm : Value) (w : World) (hx : HasIns w vn vm x) (hl : longB x = true) :
    Calls Try.prog 8 #[insV x vn vm] w fun e w' => e = .returned (.bool true) ∧ Below w.heap.size w w' := by
  have HLONG := Lib.hid (fun W h => Try.llong_calls x vn vm W h)
  have HSH := Lib.hid (fun W => Try.shown_calls W)
  have HB := Lib.hid (LawB.new hx)
  rw [hl] at HLONG
  obtain ⟨an, cn, rfl, _⟩ := hx.nodes.dat
  obtain ⟨am, cm, rfl, _⟩ := hx.matrix.dat
  unfold insV at *
  clear hx hl
  generalize x.nodes.length = L at *
  generalize x.matrix.length = M at *
  go_enter Try.func8, Try.ntmps8
  go_wp2_with (fail)
  (with_reducible refine (HLONG.out _ HB.out.ins).mono ?_)
  rintro e w1 ⟨rfl, hb1⟩
  have hB1 := (below_box _ _).trans (hb1.mono (below_box _ _).size)
  clear hb1 HLONG
  go_wp2_with (fail)
  (with_reducible refine (HSH.out _).mono ?_)
  rintro e w2 ⟨rfl, hb2⟩
  go_wp2
  go_ret
  exact ⟨rfl, hB1.trans (hb2.mono hB1.size)⟩
set_option maxRecDepth 100000 in
set_option maxHeartbeats 8000000 in
theorem Try.CanonOrder_calls (x : Ins) (vn vm : Value) (w : World) (hx : HasIns w vn vm x) (hl : longB x = false) :
    Calls Try.prog 8 #[insV x vn vm] w fun e w' => e = .returned (.bool true) ∧ Below w.heap.size w w' := by
  have HLONG := Lib.hid (fun W h => Try.llong_calls x vn vm W h)
  rw [hl] at HLONG
  have HSH := Lib.hid (fun W => Try.shown_calls W)
  have HB := Lib.hid (LawB.new hx)
  obtain ⟨b1, b2, b3⟩ := long_no hl
  have H11 := Lib.hid (fun W h => Try.L11 x vn vm W h b3 b1)
  have HC := Lib.hid (check_len nameB x b1)
  have HNX := Lib.hid (fun i p f => @check_next nameB x i p f)
  have HMM := Lib.hid (fun p => @check_mem nameB x p)
  have HBL := Lib.hid b1
  generalize checkL nameB x = l at *
  obtain ⟨an, cn, rfl, _⟩ := hx.nodes.dat
  obtain ⟨am, cm, rfl, _⟩ := hx.matrix.dat
  unfold insV at *
  clear hx hl b1 b2 b3
  generalize x.nodes.length = L at *
  generalize x.matrix.length = M at *
  go_enter Try.func8, Try.ntmps8
  go_wp2_with (fail)
  (with_reducible refine (HLONG.out _ HB.out.ins).mono ?_)
  rintro e w1 ⟨rfl, hb1⟩
  have B1 := Lib.hid (HB.out.next hb1)
  clear hb1 HLONG HB
  go_wp2_with (fail)
  (with_reducible refine (HSH.out _).mono ?_)
  rintro e w2 ⟨rfl, hb2⟩
  have B2 := Lib.hid (B1.out.next hb2)
  obtain ⟨c0, c1, c2, c3, c4, c5, c6, c7⟩ := B2.out.cells
  clear hb2 B1 HSH
  go_wp2_with (fail)
  (with_reducible refine (H11.out _ B2.out.ins).mono ?_)
  rintro e w3 ⟨v3, rfl, hF, hb3⟩
  have B3 := Lib.hid (B2.out.next hb3)
  have F3 := Lib.hid hF
  obtain ⟨fo, fc, rfl⟩ := hF.len
  clear c0 c1 c2 c3 c4 c5 c6 c7 hb3 hF B2 H11
  have hc := HC.out
  obtain ⟨n, hn⟩ : ∃ n, l.length = n := ⟨_, rfl⟩
  rw [hn] at hc F3 ⊢
  have HN := Lib.hid hn
  clear hn
  go_wp2
  go_loopw [4] (fun i wr => ∃ k : Nat, k ≤ n ∧ i = .int .i64 (k : Int) ∧ Hid (LawB w x (.slice an L cn) (.slice am M cm) wr) ∧ Hid (HasFts wr (.slice fo n fc) l)) (fun i _ => n - (intOf i).toNat)
  case atStart => exact ⟨0, Nat.zero_le _, rfl, B3, F3⟩
  case round =>
    obtain ⟨k, hk, rfl, hB, hF⟩ := hrel
    clear B3 F3
    by_cases hlt : k < n
    · obtain ⟨q, hq⟩ : ∃ q, l[k]? = some q := ⟨_, List.getElem?_eq_getElem (by have := HN.out; omega)⟩
      obtain ⟨g, gof, rfl, hga⟩ : ∃ g gof, fo = some ⟨g, gof, none⟩ ∧ FtAt wr g gof l := by
        rcases hF.out with ⟨h0, _⟩ | ⟨g, gof, gcap, e, _, _, h⟩
        · rw [h0] at hq; simp at hq
        · injection e with e1 e2 e3
          exact ⟨g, gof, e1, h⟩
      have hki : (k : Int) < (n : Int) := by omega
      obtain ⟨x0, x1⟩ := hga.2 k q hq
      have hqm := HMM.out q (List.mem_of_getElem? hq)
      have HQ := Lib.hid hq
      have c6 : wr.cell? ⟨w.heap.size, 6, none⟩ = some (.slice an L cn) := hB.out.box.p 6
      have z6 : ∀ o, (wr.alloc o).cell? ⟨w.heap.size, 6, none⟩ = some (.slice an L cn) := fun o => (hB.out.next (below_box wr o)).box.p 6
      have B1 := fun o => Lib.hid (hB.out.next (below_box wr o))
      have B2 := fun o o' => Lib.hid ((hB.out.next (below_box wr o)).next (below_box _ o'))
      have F1 := fun o => Lib.hid (hF.out.next (below_box wr o))
      have F2 := fun o o' => Lib.hid ((hF.out.next (below_box wr o)).next (below_box _ o'))
      by_cases hk0 : k = 0
      · subst hk0
        obtain ⟨f, m⟩ := q
        dsimp only at hqm x0 x1
        rw [Nat.zero_mul, Nat.add_zero] at x0 x1
        clear hq hga
        rcases hqm with ⟨g1, g2, rfl⟩ | ⟨g1, g2, g3⟩
        · have i1 : (1 : Int) ≤ (f : Int) := by omega
          have i2 : (f : Int) ≤ 8 := by omega
          have i3 : (f : Int) ≤ 13 := by omega
          clear g1 g2
          go_wp2
          go_roundw
          case rel => exact ⟨1, by omega, by go_num, B1 _, F1 _⟩
          case measure => simp [intOf]; omega
        · have i1 : (1 : Int) ≤ (f : Int) := by omega
          have i2 : (8 : Int) < (f : Int) := by omega
          have i3 : (f : Int) ≤ 13 := by omega
          have i4 : (m : Int) < (L : Int) := by omega
          have i5 : (0 : Int) ≤ (m : Int) := by omega
          clear g1 g2 g3
          go_wp2
          go_roundw
          case rel => exact ⟨1, by omega, by go_num, B1 _, F1 _⟩
          case measure => simp [intOf]; omega
      · obtain ⟨j, hj⟩ : ∃ j, k = j + 1 := ⟨k - 1, by omega⟩
        obtain ⟨p, hp⟩ : ∃ p, l[j]? = some p := ⟨_, List.getElem?_eq_getElem (by have := HN.out; omega)⟩
        obtain ⟨y0, y1⟩ := hga.2 j p hp
        have hpm := HMM.out p (List.mem_of_getElem? hp)
        have hkey := HNX.out j p q hp (by rw [← hj]; exact hq)
        have hgs : g < wr.heap.size := hga.1
        have y0' : ∀ o, (wr.alloc o).cell? ⟨g, gof + j * 2, none⟩ = some (.int .i64 (p.1 : Int)) := fun o => ((below_box wr o).cell (p := ⟨g, gof + j * 2, none⟩) hgs).trans y0
        have y1' : ∀ o, (wr.alloc o).cell? ⟨g, gof + j * 2 + 1, none⟩ = some (.int .i64 (p.2 : Int)) := fun o => ((below_box wr o).cell (p := ⟨g, gof + j * 2 + 1, none⟩) hgs).trans y1
        obtain ⟨f, m⟩ := q
        obtain ⟨a, b⟩ := p
        dsimp only at hqm hpm x0 x1 y0 y1 y0' y1'
        have hbh := behind hkey (by omega) (by omega)
        have hj1 : (k : Int) - 1 = (j : Int) := by omega
        have hjn : (j : Int) < (n : Int) := by omega
        have hk1 : ((k : Int) == 0) = false := beq_eq_false_iff_ne.2 (by omega)
        have i1 : (1 : Int) ≤ (f : Int) := by omega
        have i3 : (f : Int) ≤ 13 := by omega
        have i5 : (0 : Int) ≤ (m : Int) := by omega
        rcases hbh with ⟨g1, g2, g3, g4⟩ | ⟨g1, g2, g3⟩ | ⟨g1, g2, g3, g4⟩
        · have hm0 : m = 0 := by omega
          subst hm0
          subst g4
          have i2 : (f : Int) ≤ 8 := by omega
          have i6 : (a : Int) ≤ 8 := by omega
          have i7 : (a : Int) < (f : Int) := by omega
          clear g1 g2 g3
          clear hqm hpm hkey hq hp hga y0 y1 hk0 hj
          go_wp2
          go_roundw
          case rel => exact ⟨k + 1, by omega, by go_num, B2 _ _, F2 _ _⟩
          case measure => simp [intOf]; omega
        · have i2 : (8 : Int) < (f : Int) := by omega
          have i4 : (m : Int) < (L : Int) := by omega
          have i6 : (a : Int) ≤ 8 := by omega
          by_cases hbm : b = m
          · have k7 : ((b : Int) == (m : Int)) = true := nat_beq true (decide_eq_true hbm)
            have i7 : (a : Int) < (f : Int) := by omega
            clear hbm g1 g2 g3
            clear hqm hpm hkey hq hp hga y0 y1 hk0 hj
            go_wp2
            go_roundw
            case rel => exact ⟨k + 1, by omega, by go_num, B2 _ _, F2 _ _⟩
            case measure => simp [intOf]; omega
          · have k7 : ((b : Int) == (m : Int)) = false := nat_beq false (decide_eq_false hbm)
            clear hbm g1 g2 g3
            clear hqm hpm hkey hq hp hga y0 y1 hk0 hj
            go_wp2
            go_roundw
            case rel => exact ⟨k + 1, by omega, by go_num, B2 _ _, F2 _ _⟩
            case measure => simp [intOf]; omega
        · have i2 : (8 : Int) < (f : Int) := by omega
          have i4 : (m : Int) < (L : Int) := by omega
          have i6 : (8 : Int) < (a : Int) := by omega
          have i8 : (b : Int) ≤ (m : Int) := by omega
          by_cases hbm : b = m
          · have k7 : ((b : Int) == (m : Int)) = true := nat_beq true (decide_eq_true hbm)
            have i7 : (a : Int) < (f : Int) := by omega
            clear hbm g1 g2 g3 g4
            clear hqm hpm hkey hq hp hga y0 y1 hk0 hj
            go_wp2
            go_roundw
            case rel => exact ⟨k + 1, by omega, by go_num, B2 _ _, F2 _ _⟩
            case measure => simp [intOf]; omega
          · have k7 : ((b : Int) == (m : Int)) = false := nat_beq false (decide_eq_false hbm)
            clear hbm g1 g2 g3 g4
            clear hqm hpm hkey hq hp hga y0 y1 hk0 hj
            go_wp2
            go_roundw
            case rel => exact ⟨k + 1, by omega, by go_num, B2 _ _, F2 _ _⟩
            case measure => simp [intOf]; omega
    · obtain rfl : k = n := by omega
      go_wp2
      go_ret
      exact ⟨rfl, hB.out.below⟩
theorem Try.CanonOrder_all (x : Ins) (vn vm : Value) (w : World) (hx : HasIns w vn vm x) (_ : ∀ d ∈ x.nodes, In64 d) :
    Calls Try.prog 8 #[insV x vn vm] w fun e w' => e = .returned (.bool true) ∧ Below w.heap.size w w' := by
  cases h1 : longB x with
  | true => exact Try.CanonOrder_long x vn vm w hx h1
  | false => exact Try.CanonOrder_calls x vn vm w hx h1
end Go.Proofs
