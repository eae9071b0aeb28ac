/- The document's own Less, Sorted, First and Same. Conditions: lists of at most two million. -/
import Derived.Test.YtgapefkoemofcaaDoorSorted
namespace Go.Proofs
open Go.RowKit Go.Dg
attribute [local go_sem] Oper.semAt_some
attribute [local go_sem ↓] Go.wp_at_zero Go.wp_at_succ
set_option maxHeartbeats 1000000 in
theorem Tryd.Less_any (a b : Mk) (w : World) : Calls Tryd.prog 19 #[.agg #[.int .i64 a.1, .int .i64 a.2], .agg #[.int .i64 b.1, .int .i64 b.2]] w fun e w' => e = .returned (.bool (lt a b)) ∧ Below w.heap.size w w' := by
  have h : (a.1 < b.1 ∧ lt a b = true) ∨ (¬ a.1 < b.1 ∧ (a.1 == b.1) = false ∧ lt a b = false) ∨ (¬ a.1 < b.1 ∧ a.1 = b.1 ∧ a.2 < b.2 ∧ lt a b = true) ∨ (¬ a.1 < b.1 ∧ a.1 = b.1 ∧ ¬ a.2 < b.2 ∧ lt a b = false) := by
    rw [lt_iff, lt_no, beq_eq_false_iff_ne]; omega
  have B2 := ((Below.refl _ w).alloc (Nat.le_refl _) (.cells #[.int .i64 a.1, .int .i64 a.2] 25)).alloc (by simp) (.cells #[.int .i64 b.1, .int .i64 b.2] 25)
  rcases h with ⟨h1, h⟩ | ⟨h1, h2, h⟩ | ⟨h1, h2, h3, h⟩ | ⟨h1, h2, h3, h⟩
  · rw [h]; clear h
    go_enter Tryd.func19, Tryd.ntmps19
    go_wp2
    go_ret
    exact ⟨rfl, B2⟩
  · rw [h]; clear h
    go_enter Tryd.func19, Tryd.ntmps19
    go_wp2
    go_ret
    exact ⟨rfl, B2⟩
  · rw [h]; clear h
    obtain ⟨a1, a2⟩ := a
    obtain ⟨b1, b2⟩ := b
    simp only at h1 h2 h3 B2 ⊢
    subst h2
    go_enter Tryd.func19, Tryd.ntmps19
    go_wp2
    go_ret
    exact ⟨rfl, B2⟩
  · rw [h]; clear h
    obtain ⟨a1, a2⟩ := a
    obtain ⟨b1, b2⟩ := b
    simp only at h1 h2 h3 B2 ⊢
    subst h2
    go_enter Tryd.func19, Tryd.ntmps19
    go_wp2
    go_ret
    exact ⟨rfl, B2⟩
set_option maxRecDepth 100000 in
set_option maxHeartbeats 2000000 in
theorem Tryd.rSorted_any (v : Value) (l : List Mk) (w : World) (hl : l.length ≤ 2000000) (hv : HasDiags w v l) :
    Calls Tryd.prog 18 #[v] w fun e w' => e = .returned (.bool (sortB l)) ∧ Below w.heap.size w w' := by
  obtain ⟨F, hF⟩ : ∃ F, F = sortB l := ⟨_, rfl⟩
  rw [← hF]
  have HF := Lib.hid hF
  clear hF
  rcases hv with ⟨rfl, ao, cap, rfl⟩ | ⟨b, off, cap, rfl, hlc, hcm, hd⟩
  · clear hl
    go_enter Tryd.func18, Tryd.ntmps18
    go_wp2
    go_loopw [3] (fun i wr => i = .int .i64 1 ∧ Below w.heap.size w wr) (fun _ _ => 0)
    case atStart => exact ⟨rfl, Below.refl _ _⟩
    case round =>
      obtain ⟨rfl, hB⟩ := hrel
      go_wp2
      go_ret
      exact ⟨by rw [HF.out]; rfl, hB⟩
  · have HD : HeldR w b off l w := ⟨hd, hd.1, Below.refl _ _⟩
    have HC : Hid (∀ p q W, Calls Tryd.prog 19 #[.agg #[.int .i64 p.1, .int .i64 p.2], .agg #[.int .i64 q.1, .int .i64 q.2]] W fun e w' => e = .returned (.bool (lt p q)) ∧ Below W.heap.size W w') := fun p q W => Tryd.Less_any p q W
    unfold maxLen at hcm
    clear hd
    go_enter Tryd.func18, Tryd.ntmps18
    go_wp2
    go_loopw [3] (fun i wr => ∃ k : Nat, i = .int .i64 ((k : Int) + 1) ∧ k ≤ l.length ∧ HeldR w b off l wr ∧ (∀ j, j < k → ∀ a b, l[j]? = some a → l[j + 1]? = some b → lt a b = true)) (fun i _ => l.length + 1 - (intOf i).toNat)
    case atStart => exact ⟨0, rfl, Nat.zero_le _, HD, fun j h => by omega⟩
    case round =>
      obtain ⟨k, rfl, hk, hH, hA⟩ := hrel
      have HA := Lib.hid hA
      clear hA HD
      by_cases hlt : k + 1 < l.length
      · obtain ⟨q, hq⟩ : ∃ q, l[k]? = some q := ⟨_, List.getElem?_eq_getElem (by omega)⟩
        obtain ⟨p, hp⟩ : ∃ p, l[k + 1]? = some p := ⟨_, List.getElem?_eq_getElem hlt⟩
        have HQ := Lib.hid hq
        have HP := Lib.hid hp
        have hS := heldR_S HP HQ hH
        have HCm := Lib.hid (HC.out q p)
        have e1 : IntKind.i64.wrap (k : Int) = (k : Int) := by rw [IntKind.wrap_i64]; omega
        have e2 : (k : Int) + 1 < (l.length : Int) := by omega
        have e3 : (k : Int) < (l.length : Int) := by omega
        have e4 : (0 : Int) ≤ (k : Int) + 1 := by omega
        have e5 : ((k : Int) + 1).toNat = k + 1 := by omega
        cases hx : lt q p with
        | true =>
          rw [hx] at HCm
          have HX := Lib.hid hx
          clear hq hp hH hx HC
          go_wp2
          go_region_held3 (fun W => W.cell? ⟨b, off + (k + 1) * 2, none⟩ = some (.int .i64 p.1) ∧ W.cell? ⟨b, off + (k + 1) * 2 + 1, none⟩ = some (.int .i64 p.2) ∧ W.cell? ⟨b, off + k * 2, none⟩ = some (.int .i64 q.1) ∧ W.cell? ⟨b, off + k * 2 + 1, none⟩ = some (.int .i64 q.2) ∧ HeldR w b off l W)
            ((go_split_ands; (first | exact heldR_S HP HQ (by assumption) | exact heldR_S HP HQ (HeldR.drew (by assumption)) | exact heldR_S HP HQ (HeldR.next (by assumption) (by assumption)))))
            (first | (go_at_call 19; (with_reducible refine (HCm.out _).mono ?_); rintro e w' ⟨rfl, hb⟩))
          have T := (show _ ∧ _ ∧ _ ∧ _ ∧ HeldR w b off l w' by assumption).2.2.2.2
          clear hS
          go_wp2
          go_roundw
          case rel => exact ⟨k + 1, by simp, by omega, T, fun j hj a c h1 h2 => by
            by_cases e : j = k
            · subst e
              rw [HQ.out] at h1; rw [HP.out] at h2; cases h1; cases h2; exact HX.out
            · exact HA.out j (by omega) a c h1 h2⟩
          case measure => simp [intOf]; omega
        | false =>
          rw [hx] at HCm
          have HX := Lib.hid hx
          clear hq hp hH hx HC
          go_wp2
          go_region_held3 (fun W => W.cell? ⟨b, off + (k + 1) * 2, none⟩ = some (.int .i64 p.1) ∧ W.cell? ⟨b, off + (k + 1) * 2 + 1, none⟩ = some (.int .i64 p.2) ∧ W.cell? ⟨b, off + k * 2, none⟩ = some (.int .i64 q.1) ∧ W.cell? ⟨b, off + k * 2 + 1, none⟩ = some (.int .i64 q.2) ∧ HeldR w b off l W)
            ((go_split_ands; (first | exact heldR_S HP HQ (by assumption) | exact heldR_S HP HQ (HeldR.drew (by assumption)) | exact heldR_S HP HQ (HeldR.next (by assumption) (by assumption)))))
            (first | (go_at_call 19; (with_reducible refine (HCm.out _).mono ?_); rintro e w' ⟨rfl, hb⟩))
          have T := (show _ ∧ _ ∧ _ ∧ _ ∧ HeldR w b off l w' by assumption).2.2.2.2
          clear hS
          go_wp2
          go_ret
          exact ⟨by rw [HF.out, sortB_bad HQ.out HP.out HX.out]; rfl, T.2.2⟩
      · have hge : ¬ ((k : Int) + 1 < (l.length : Int)) := by omega
        have HB := hH.2.2
        by_cases h16 : l.length ≤ 16
        · have HG := Lib.hid (sortB_good h16 (fun j hj a c h1 h2 => HA.out j (by omega) a c h1 h2))
          have h16' : (l.length : Int) ≤ 16 := by omega
          clear hH
          go_wp2
          go_ret
          exact ⟨by rw [HF.out, HG.out]; simp, HB⟩
        · have HL := Lib.hid (sortB_long h16)
          have h16' : ¬ (l.length : Int) ≤ 16 := by omega
          clear hH
          go_wp2
          go_ret
          exact ⟨by rw [HF.out, HL.out]; simp, HB⟩
set_option maxHeartbeats 400000 in
theorem Tryd.rFirst_none (ao : Option Addr) (cap : Nat) (w : World) :
    Calls Tryd.prog 17 #[.slice ao 0 cap] w fun e w' => e = .returned (.tuple #[.agg #[.int .i64 0, .int .i64 0], .bool false]) ∧ Below w.heap.size w w' := by
  go_enter Tryd.func17, Tryd.ntmps17
  go_wp2
  exact bodyPost_ret (v := .tuple #[.agg #[.int .i64 0, .int .i64 0], .bool false]) (by simp [results, Tryd.results17, go_sem]) rfl ⟨rfl, (Below.refl _ w).alloc (Nat.le_refl _) _⟩
set_option maxHeartbeats 400000 in
theorem Tryd.rFirst_some (b off cap : Nat) (p : Mk) (r : List Mk) (w : World) (hl : (p :: r).length ≤ 2000000) (hd : DiagAt w b off (p :: r)) :
    Calls Tryd.prog 17 #[.slice (some ⟨b, off, none⟩) (p :: r).length cap] w fun e w' => e = .returned (.tuple #[.agg #[.int .i64 p.1, .int .i64 p.2], .bool true]) ∧ Below w.heap.size w w' := by
  obtain ⟨n, hn⟩ : ∃ n, n = (p :: r).length := ⟨_, rfl⟩
  have hn1 : 1 ≤ n := by rw [hn]; simp
  rw [← hn] at hl ⊢
  obtain ⟨x0, x1⟩ := hd.read (i := 0) (p := p) rfl
  simp only [Nat.zero_mul, Nat.add_zero] at x0 x1
  have hb := hd.1
  clear hd hn
  go_enter Tryd.func17, Tryd.ntmps17
  go_wp2
  exact bodyPost_ret (v := .tuple #[.agg #[.int .i64 p.1, .int .i64 p.2], .bool true]) (by simp [results, Tryd.results17, go_sem]) rfl ⟨rfl, (Below.refl _ w).alloc (Nat.le_refl _) _⟩
theorem HasDiags.split {W : World} {v : Value} {l : List Mk} (h : HasDiags W v l) : (l = [] ∧ ∃ ao cap, v = .slice ao 0 cap) ∨ (0 < l.length ∧ ∃ b off cap, v = .slice (some ⟨b, off, none⟩) l.length cap ∧ l.length ≤ cap ∧ cap ≤ maxLen ∧ DiagAt W b off l) := by
  cases l with
  | nil =>
    rcases h with ⟨_, h⟩ | ⟨b, off, cap, rfl, _⟩
    · exact .inl ⟨rfl, h⟩
    · exact .inl ⟨rfl, _, _, rfl⟩
  | cons p r =>
    rcases h with ⟨h, _⟩ | h
    · cases h
    · exact .inr ⟨by simp, h⟩
set_option maxRecDepth 100000 in
set_option maxHeartbeats 1000000 in
theorem Tryd.Same_any (v u : Value) (l : List Mk) (w : World) (hlen : l.length ≤ 2000000) (hv : HasDiags w v l) (hu : HasDiags w u l) :
    Calls Tryd.prog 12 #[v, u] w fun e w' => e = .returned (.bool true) ∧ Below w.heap.size w w' := by
  have hmx : Tryd.prog.follows .mixedOrders = true := by kernel_rfl
  rcases hv.split with ⟨rfl, ao, cap, rfl⟩ | ⟨hpos, g, off, cap, rfl, hlc, hcm, hg⟩
  · rcases hu.split with ⟨_, ao', cap', rfl⟩ | ⟨hpos, _⟩
    · clear hv hu hlen
      go_enter Tryd.func12, Tryd.ntmps12
      go_wp2
      go_loopw [5] (fun i wr => i = .int .i64 0 ∧ Below w.heap.size w wr) (fun _ _ => 0)
      case atStart => exact ⟨rfl, Below.refl _ w⟩
      case round =>
        obtain ⟨rfl, hB⟩ := hrel
        go_wp2
        go_ret
        exact ⟨rfl, hB⟩
    · simp at hpos
  · rcases hu.split with ⟨rfl, _⟩ | ⟨_, g', off', cap', rfl, hlc', hcm', hg'⟩
    · simp at hpos
    · have HV := Lib.hid hg
      have HU := Lib.hid hg'
      have hgl := hg.1
      have hgl' := hg'.1
      unfold maxLen at hcm hcm'
      clear hv hu hg hg'
      go_enter Tryd.func12, Tryd.ntmps12
      go_wp2
      go_loopw [5] (fun i wr => ∃ k : Nat, k ≤ l.length ∧ i = .int .i64 (k : Int) ∧ Below w.heap.size w wr) (fun i _ => l.length - (intOf i).toNat)
      case atStart => exact ⟨0, Nat.zero_le _, rfl, Below.refl _ w⟩
      case round =>
        obtain ⟨k, hk, rfl, hB⟩ := hrel
        by_cases hlt : k < l.length
        · obtain ⟨p, hp⟩ : ∃ p, l[k]? = some p := ⟨_, List.getElem?_eq_getElem hlt⟩
          obtain ⟨x0, x1⟩ := HV.out.read hp
          obtain ⟨y0, y1⟩ := HU.out.read hp
          replace x0 := (hB.cell (p := ⟨g, off + k * 2, none⟩) hgl).trans x0
          replace x1 := (hB.cell (p := ⟨g, off + k * 2 + 1, none⟩) hgl).trans x1
          replace y0 := (hB.cell (p := ⟨g', off' + k * 2, none⟩) hgl').trans y0
          replace y1 := (hB.cell (p := ⟨g', off' + k * 2 + 1, none⟩) hgl').trans y1
          clear hp
          go_wp2
          go_quiet (fail)
          go_wp2
          go_roundw
          case rel => exact ⟨k + 1, by omega, by go_num, hB.trans ⟨rfl, rfl, rfl, Nat.le_refl _, fun _ _ => rfl⟩⟩
          case measure => simp [intOf]; omega
        · have hkk : k = l.length := by omega
          subst hkk
          go_wp2
          go_ret
          exact ⟨rfl, hB⟩
#print axioms Tryd.rSorted_any
#print axioms Tryd.Same_any
end Go.Proofs
