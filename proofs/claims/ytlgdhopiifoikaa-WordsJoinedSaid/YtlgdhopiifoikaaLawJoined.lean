/- The law WordsJoined of this program, as a contract. Conditions: the slice of bytes is nil or empty, or reads as bytes. -/
import Derived.Test.YtlgdhopiifoikaaShown
import Derived.Test.YtlgdhopiifoikaaJoinPlain
namespace Go.Wds
theorem extract_list (s : ByteArray) (p q : Nat) : (s.extract p q).data.toList = tx s.data.toList p q := by
  unfold tx
  simp [ByteArray.data_extract, List.extract_eq_take_drop]
theorem bytes_ext {a b : ByteArray} (h : a.data.toList = b.data.toList) : a = b := by
  cases a; cases b
  exact congrArg ByteArray.mk (Array.toList_inj.1 h)
theorem app_list (a b : ByteArray) : (a ++ b).data.toList = a.data.toList ++ b.data.toList := by rw [ByteArray.data_append, Array.toList_append]
end Go.Wds
namespace Go.Proofs
open Go.RowKit Go.Shelf Go.Wds

theorem not_empty2 (s : ByteArray) (h0 : ¬ s.size = 0) : s.toList.isEmpty = false := by
  rw [Lib.toList_data]
  cases h : s.data.toList with
  | nil => have : s.data.toList.length = s.size := Array.length_toList; rw [h] at this; simp at this; omega
  | cons a r => rfl
/-- A slice of bytes that came in. -/
def Came (w : World) (a : Option Addr) (len : Nat) : Prop :=
  len = 0 ∨ ∃ b off, a = some ⟨b, off, none⟩ ∧ b < w.heap.size ∧ ∀ i, i < len → ∃ z : Nat, z < 256 ∧ w.cell? ⟨b, off + i, none⟩ = some (.int .u8 (z : Int))

set_option maxRecDepth 100000 in
set_option maxHeartbeats 4000000 in
theorem Try.WordsJoined_calls (s : ByteArray) (a1 : Option Addr) (len cap : Nat) (w : World) (hs : s.size ≤ maxLen) (hlm : len ≤ maxLen) (hin : Came w a1 len) :
    Calls Try.prog 6 #[.string s, .slice a1 len cap] w fun e w' => e = .returned (.bool true) ∧ Below w.heap.size w w' := by
  unfold maxLen at hs hlm
  by_cases hbig : 1000 < s.size
  · have hd : decide ((1000 : Int) < (s.size : Int)) = true := decide_eq_true (by omega)
    clear hbig hin
    go_enter Try.func6, Try.ntmps6
    go_wp2_with (go_at_call 10; refine (Try.shown_calls _).mono ?_; rintro e w1 ⟨rfl, hb1⟩)
    go_ret
    exact ⟨rfl, hb1⟩
  · have hd : decide ((1000 : Int) < (s.size : Int)) = false := decide_eq_false (by omega)
    by_cases hbig2 : 100 < len
    · have hd2 : decide ((100 : Int) < (len : Int)) = true := decide_eq_true (by omega)
      clear hbig hbig2 hin
      go_enter Try.func6, Try.ntmps6
      go_wp2_with (go_at_call 10; refine (Try.shown_calls _).mono ?_; rintro e w1 ⟨rfl, hb1⟩)
      go_ret
      exact ⟨rfl, hb1⟩
    · have hd2 : decide ((100 : Int) < (len : Int)) = false := decide_eq_false (by omega)
      have hss : s.size ≤ 1000 := by omega
      have hlen : s.data.toList.length = s.size := by simp
      have hpl := words_len s.data.toList 0 s.size
      have hrun : Runs s.data.toList s.data.toList.length 0 (wordsL s.data.toList 0 s.size) := by rw [hlen]; exact runs_of (Nat.zero_le _) (by omega)
      have C1 := Lib.hid fun W => Try.Fields_calls s ((0 : Nat) : Int) ((s.size : Nat) : Int) W (by omega)
      rw [fieldsI_nat (Nat.zero_le _) (Nat.le_refl _)] at C1
      obtain ⟨ps, hps⟩ : ∃ ps, wordsL s.data.toList 0 s.size = ps := ⟨_, rfl⟩
      rw [hps] at hrun C1 hpl
      have HR := Lib.hid hrun
      have HL := Lib.hid hlen
      have hpl2 : ps.length ≤ 1000 := by omega
      have HIN := Lib.hid hin
      clear hbig hbig2 hps hrun hlen hs hpl hin
      go_enter Try.func6, Try.ntmps6
      go_wp2_with (go_at_call 10; refine (Try.shown_calls _).mono ?_; rintro e w1 ⟨rfl, hb1⟩)
      refine (C1.out _).mono ?_
      rintro e w2 ⟨v, rfl, hv, hb2⟩
      obtain ⟨ao, cap1, rfl, hcells⟩ := hv
      have HC := Lib.hid hcells
      have B : Below w.heap.size w w2 := hb1.trans (hb2.mono hb1.size)
      clear hcells hb1 hb2 C1
      go_wp2_with (fail)
      go_loopw [6, 7] (fun t' i' wr => ∃ (i a : Nat) (T : ByteArray) (qs : List (Nat × Nat)), i' = .int .i64 (i : Int) ∧ t' = .string T ∧ i ≤ ps.length ∧ a ≤ s.size ∧ T.size ≤ 1 + a + 3 * i ∧ Hid (Ahead s.data.toList ps i a) ∧ Hid (Built s.data.toList ps i T.data.toList qs) ∧ Below w2.heap.size w2 wr) (fun _ i' _ => ps.length - (intOf i').toNat)
      case atStart => exact ⟨0, 0, ⟨#[9]⟩, [], rfl, rfl, Nat.zero_le _, Nat.zero_le _, Nat.le_refl _, Lib.hid (fun _ => HR.out), Lib.hid (built_start _ _), Below.refl _ _⟩
      case round =>
        obtain ⟨i, a, T, qs, rfl, rfl, hi, ha, hTs, HA, HT, hB⟩ := hrel
        by_cases hlt : i < ps.length
        · obtain ⟨⟨p, q⟩, hp⟩ : ∃ p, ps[i]? = some p := ⟨_, List.getElem?_eq_getElem hlt⟩
          obtain ⟨g, rfl, hg, x0, x1⟩ := HC.out i p q hp
          replace x0 := (hB.cell (p := ⟨g, i * 2, none⟩) hg).trans x0
          replace x1 := (hB.cell (p := ⟨g, i * 2 + 1, none⟩) hg).trans x1
          obtain ⟨f1, f2, f3, f4, f5⟩ := ahead_step HA.out hp
          have hq := f3
          rw [HL.out] at f3
          have C2 := Lib.hid fun W => Try.textN s p q W (by omega) (by omega)
          have hXl := extract_list s p q
          have hXs : (s.extract p q).size = q - p := extract_size' s (by omega) (by omega)
          obtain ⟨X, hX⟩ : ∃ X, s.extract p q = X := ⟨_, rfl⟩
          rw [hX] at C2 hXl hXs
          have hXs2 : X.size ≤ q - p := by omega
          have hXs3 : X.size ≤ 1000 := by omega
          have hTs3 : T.size ≤ 5000 := by omega
          have HS1 := Lib.hid (built_step (z := [32]) HT.out hp f2 hq f4 (by decide) (by simp))
          have HS2 := Lib.hid (built_step (z := [32, 9, 32]) HT.out hp f2 hq f4 (by decide) (by simp))
          have E1 := Lib.hid (show (T ++ X ++ (⟨#[32]⟩ : ByteArray)).data.toList = T.data.toList ++ tx s.data.toList p q ++ [32] by rw [app_list, app_list, hXl])
          have E2 := Lib.hid (show (T ++ X ++ (⟨#[32]⟩ : ByteArray) ++ (⟨#[9, 32]⟩ : ByteArray)).data.toList = T.data.toList ++ tx s.data.toList p q ++ [32, 9, 32] by rw [app_list, app_list, app_list, hXl, List.append_assoc]; rfl)
          have Z1 := Lib.hid (show (T ++ X ++ (⟨#[32]⟩ : ByteArray)).size ≤ 1 + q + 3 * (i + 1) by rw [ByteArray.size_append, ByteArray.size_append]; show T.size + X.size + 1 ≤ _; omega)
          have Z2 := Lib.hid (show (T ++ X ++ (⟨#[32]⟩ : ByteArray) ++ (⟨#[9, 32]⟩ : ByteArray)).size ≤ 1 + q + 3 * (i + 1) by rw [ByteArray.size_append, ByteArray.size_append, ByteArray.size_append]; show T.size + X.size + 1 + 2 ≤ _; omega)
          have HA2 := Lib.hid f5
          clear hp f4 f5 hq HA HT hX hXl hXs
          by_cases hib : i < len
          · have dl : decide (i < len) = true := decide_eq_true hib
            obtain ⟨b, off, rfl, hb, hz⟩ : ∃ b off, a1 = some ⟨b, off, none⟩ ∧ b < w.heap.size ∧ ∀ i, i < len → ∃ z : Nat, z < 256 ∧ w.cell? ⟨b, off + i, none⟩ = some (.int .u8 (z : Int)) := by
              rcases HIN.out with h | h
              · omega
              · exact h
            obtain ⟨z, hz1, hz2⟩ := hz i hib
            have hz3 : wr.cell? ⟨b, off + i, none⟩ = some (.int .u8 (z : Int)) := (hB.cell (p := ⟨b, off + i, none⟩) (Nat.lt_of_lt_of_le hb B.size)).trans ((B.cell (p := ⟨b, off + i, none⟩) hb).trans hz2)
            have hbr : b < wr.heap.size := Nat.lt_of_lt_of_le hb (Nat.le_trans B.size hB.size)
            clear hz hz2
            go_wp2_with (go_at_call 15; (with_reducible refine (C2.out _).mono ?_); rintro e w3 ⟨rfl, hb3⟩; have y3 := (hb3.cell (p := ⟨b, off + i, none⟩) hbr).trans hz3)
            · go_roundw
              case rel => exact ⟨i + 1, q, _, _, by go_num, rfl, by omega, by omega, Z2.out, HA2, by rw [E2.out]; exact HS2, hB.trans (hb3.mono hB.size)⟩
              case measure => simp [intOf]; omega
            · go_roundw
              case rel => exact ⟨i + 1, q, _, _, by go_num, rfl, by omega, by omega, Z1.out, HA2, by rw [E1.out]; exact HS1, hB.trans (hb3.mono hB.size)⟩
              case measure => simp [intOf]; omega
          · have dl : decide (i < len) = false := decide_eq_false hib
            clear hib
            go_wp2_with (go_at_call 15; (with_reducible refine (C2.out _).mono ?_); rintro e w3 ⟨rfl, hb3⟩)
            go_roundw
            case rel => exact ⟨i + 1, q, _, _, by go_num, rfl, by omega, by omega, Z1.out, HA2, by rw [E1.out]; exact HS1, hB.trans (hb3.mono hB.size)⟩
            case measure => simp [intOf]; omega
        · have hii : i = ps.length := by omega
          subst hii
          have hTs3 : T.size ≤ 5000 := by omega
          have HTl := Lib.hid (show T.data.toList.length = T.size by simp)
          have C2 := Lib.hid fun W => Try.Fields_calls T ((0 : Nat) : Int) ((T.size : Nat) : Int) W (by omega)
          rw [fieldsI_nat (Nat.zero_le _) (Nat.le_refl _), ← HTl.out, built_end HT.out, HTl.out] at C2
          have hql : qs.length = ps.length := HT.out.1
          have HQ := Lib.hid hql
          have B1 : Below w.heap.size w wr := B.trans (hB.mono B.size)
          clear hql hlt HIN HA
          go_wp2_with (fail)
          refine (C2.out _).mono ?_
          rintro e w3 ⟨v3, rfl, hv3, hb3⟩
          obtain ⟨ao2, cap2, rfl, hcells2⟩ := hv3
          rw [HQ.out]
          have HC2 := Lib.hid hcells2
          have hB2 : Below w2.heap.size w2 w3 := hB.trans (hb3.mono hB.size)
          have B2 : Below w.heap.size w w3 := B1.trans (hb3.mono B1.size)
          clear hcells2 hb3 C2 hB B1 B
          go_wp2_with (fail)
          go_loopw [9] (fun i' wr => ∃ i : Nat, i' = .int .i64 (i : Int) ∧ i ≤ ps.length ∧ Below w3.heap.size w3 wr) (fun i' _ => ps.length - (intOf i').toNat)
          case atStart => exact ⟨0, rfl, Nat.zero_le _, Below.refl _ _⟩
          case round =>
            obtain ⟨i, rfl, hi, hB⟩ := hrel
            by_cases hlt : i < ps.length
            · obtain ⟨⟨p, q⟩, hp⟩ : ∃ p, ps[i]? = some p := ⟨_, List.getElem?_eq_getElem hlt⟩
              obtain ⟨g, rfl, hg, x0, x1⟩ := HC.out i p q hp
              obtain ⟨p', q', hp', g2, g3, g4⟩ := HT.out.2.2.2.2 i p q hlt hp
              obtain ⟨g', rfl, hg', y0, y1⟩ := HC2.out i p' q' hp'
              have hg3 := Nat.lt_of_lt_of_le hg hB2.size
              replace x0 := (hB.cell (p := ⟨g, i * 2, none⟩) hg3).trans ((hB2.cell (p := ⟨g, i * 2, none⟩) hg).trans x0)
              replace x1 := (hB.cell (p := ⟨g, i * 2 + 1, none⟩) hg3).trans ((hB2.cell (p := ⟨g, i * 2 + 1, none⟩) hg).trans x1)
              replace y0 := (hB.cell (p := ⟨g', i * 2, none⟩) hg').trans y0
              replace y1 := (hB.cell (p := ⟨g', i * 2 + 1, none⟩) hg').trans y1
              have hgr := Nat.lt_of_lt_of_le hg' hB.size
              obtain ⟨f1, f2⟩ := runs_pos HR.out hp
              rw [HL.out] at f2
              rw [HTl.out] at g3
              have C3 := Lib.hid fun W => Try.textN s p q W (by omega) (by omega)
              have C4 := Lib.hid fun W => Try.textN T p' q' W g2 g3
              have hXX : T.extract p' q' = s.extract p q := bytes_ext (by rw [extract_list, extract_list]; exact g4)
              rw [hXX] at C4
              have hXs : ¬ (s.extract p q).size = 0 := by rw [extract_size' s (by omega) (by omega)]; omega
              obtain ⟨X, hX⟩ : ∃ X, s.extract p q = X := ⟨_, rfl⟩
              rw [hX] at C3 C4 hXs
              have e1 := not_empty2 X hXs
              have e2 : ¬ X.toList = [] := fun h => by rw [h] at e1; cases e1
              clear hp hp' g2 g3 g4 hXX hX hXs
              go_wp2_with (fail)
              refine (C3.out _).mono ?_
              rintro e w4 ⟨rfl, hb4⟩
              have z0 := (hb4.cell (p := ⟨g', i * 2, none⟩) hgr).trans y0
              have z1 := (hb4.cell (p := ⟨g', i * 2 + 1, none⟩) hgr).trans y1
              clear x0 x1 y0 y1
              go_wp2_with (fail)
              refine (C4.out _).mono ?_
              rintro e w5 ⟨rfl, hb5⟩
              have hb6 := hb4.trans (hb5.mono hb4.size)
              clear z0 z1 hb4 hb5
              go_wp2
              go_roundw
              case rel => exact ⟨i + 1, by go_num, by omega, hB.trans (hb6.mono hB.size)⟩
              case measure => simp [intOf]; omega
            · have hii : i = ps.length := by omega
              subst hii
              go_wp2
              go_ret
              exact ⟨rfl, B2.trans (hB.mono B2.size)⟩
#print axioms Try.WordsJoined_calls
end Go.Proofs
