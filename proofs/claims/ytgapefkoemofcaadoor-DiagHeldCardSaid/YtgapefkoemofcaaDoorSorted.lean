/- diag.Sorted, diag.First and diag.Put. Conditions: lists of at most two million; sorted, of at most 16 (Put). -/
import Derived.Test.YtgapefkoemofcaaDoorCopy
namespace Go.Dg
def chainB : List Mk → Bool
  | [] => true
  | [_] => true
  | x :: y :: r => lt x y && chainB (y :: r)
theorem chainB_iff : ∀ {l : List Mk}, chainB l = true ↔ Srt l
  | [] => by simp [chainB, Srt]
  | [x] => by simp [chainB, Srt]
  | x :: y :: r => by
    have ih := chainB_iff (l := y :: r)
    simp only [chainB, Bool.and_eq_true]
    rw [ih]
    constructor
    · rintro ⟨h1, h2⟩
      refine ⟨fun z hz => ?_, h2⟩
      rcases List.mem_cons.1 hz with rfl | hz
      · exact h1
      · exact lt_trans h1 (h2.1 z hz)
    · rintro ⟨h1, h2⟩
      exact ⟨h1 y (by simp), h2⟩
def sortB (l : List Mk) : Bool := decide (l.length ≤ 16) && chainB l
theorem sortB_iff {l : List Mk} : sortB l = true ↔ l.length ≤ 16 ∧ Srt l := by
  unfold sortB; rw [Bool.and_eq_true, decide_eq_true_iff, chainB_iff]
theorem sortB_long {l : List Mk} (h : ¬ l.length ≤ 16) : sortB l = false := by
  rw [← Bool.not_eq_true, sortB_iff]; exact fun e => h e.1
theorem sortB_bad {l : List Mk} {i : Nat} {a b : Mk} (h1 : l[i]? = some a) (h2 : l[i + 1]? = some b) (h : lt a b = false) : sortB l = false := by
  rw [← Bool.not_eq_true, sortB_iff]
  intro e
  rw [e.2.get (Nat.lt_succ_self i) h1 h2] at h; cases h
theorem sortB_good {l : List Mk} (hl : l.length ≤ 16) (h : ∀ j, j + 1 < l.length → ∀ a b, l[j]? = some a → l[j + 1]? = some b → lt a b = true) : sortB l = true :=
  sortB_iff.2 ⟨hl, Srt.of_get fun i a b h1 h2 => h i (List.getElem?_eq_some_iff.1 h2).1 a b h1 h2⟩
end Go.Dg
namespace Go.Proofs
open Go.RowKit Go.Dg
attribute [local go_sem] Oper.semAt_some
attribute [local go_sem ↓] Go.wp_at_zero Go.wp_at_succ

def HeldR (w : World) (b off : Nat) (l : List Mk) (W : World) : Prop := DiagAt W b off l ∧ b < w.heap.size ∧ Below w.heap.size w W
theorem HeldR.next {w W W' : World} {b off : Nat} {l : List Mk} (h : HeldR w b off l W) (hb : Below W.heap.size W W') : HeldR w b off l W' := ⟨h.1.next hb, h.2.1, h.2.2.trans (hb.mono h.2.2.size)⟩
theorem HeldR.drew {w W : World} {b off : Nat} {l : List Mk} (h : HeldR w b off l W) : HeldR w b off l W.drew := ⟨h.1, h.2.1, h.2.2.drew⟩
theorem heldR_S {b off i j : Nat} {w W : World} {l : List Mk} {p q : Mk} (hi : Hid (l[i]? = some p)) (hj : Hid (l[j]? = some q)) (h : HeldR w b off l W) :
    W.cell? ⟨b, off + i * 2, none⟩ = some (.int .i64 p.1) ∧ W.cell? ⟨b, off + i * 2 + 1, none⟩ = some (.int .i64 p.2) ∧ W.cell? ⟨b, off + j * 2, none⟩ = some (.int .i64 q.1) ∧ W.cell? ⟨b, off + j * 2 + 1, none⟩ = some (.int .i64 q.2) ∧ HeldR w b off l W :=
  ⟨(h.1.read hi.out).1, (h.1.read hi.out).2, (h.1.read hj.out).1, (h.1.read hj.out).2, h⟩

set_option maxRecDepth 100000 in
set_option maxHeartbeats 2000000 in
theorem Tryd.Sorted_any (v : Value) (l : List Mk) (w : World) (hl : l.length ≤ 2000000) (hv : HasDiags w v l) :
    Calls Tryd.prog 13 #[v] w fun e w' => e = .returned (.bool (sortB l)) ∧ Below w.heap.size w w' := by
  obtain ⟨F, hF⟩ : ∃ F, F = sortB l := ⟨_, rfl⟩
  rw [← hF]
  have HF := Lib.hid hF
  clear hF
  by_cases h16 : l.length ≤ 16
  · rcases hv with ⟨rfl, ao, cap, rfl⟩ | ⟨b, off, cap, rfl, hlc, hcm, hd⟩
    · clear hl h16
      go_enter Tryd.func13, Tryd.ntmps13
      go_wp2
      go_loopw [3] (fun i wr => i = .int .i64 1 ∧ Below w.heap.size w wr) (fun _ _ => 0)
      case atStart => exact ⟨rfl, Below.refl _ _⟩
      case round =>
        obtain ⟨rfl, hB⟩ := hrel
        go_wp2
        go_ret
        exact ⟨by rw [HF.out]; rfl, hB⟩
    · have HD : HeldR w b off l w := ⟨hd, hd.1, Below.refl _ _⟩
      have HC : Hid (∀ p q W, Calls Tryd.prog 25 #[.agg #[.int .i64 p.1, .int .i64 p.2], .agg #[.int .i64 q.1, .int .i64 q.2]] W fun e w' => e = .returned (.int .i64 (cmpM p q)) ∧ Below W.heap.size W w') := fun p q W => Tryd.compare_any p q W
      unfold maxLen at hcm
      clear hd
      go_enter Tryd.func13, Tryd.ntmps13
      go_wp2
      go_loopw [3] (fun i wr => ∃ k : Nat, i = .int .i64 ((k : Int) + 1) ∧ k ≤ l.length ∧ HeldR w b off l wr ∧ (∀ j, j < k → ∀ a b, l[j]? = some a → l[j + 1]? = some b → lt a b = true)) (fun i _ => l.length + 1 - (intOf i).toNat)
      case atStart => exact ⟨0, rfl, Nat.zero_le _, HD, fun j h => by omega⟩
      case round =>
        obtain ⟨k, rfl, hk, hH, hA⟩ := hrel
        have HA := Lib.hid hA
        clear hA HD
        by_cases hlt : k + 1 < l.length
        · obtain ⟨q, hq⟩ : ∃ q, l[k]? = some q := ⟨_, List.getElem?_eq_getElem (by omega)⟩
          obtain ⟨p, hp⟩ : ∃ p, l[k + 1]? = some p := ⟨_, List.getElem?_eq_getElem hlt⟩
          have HQ := Lib.hid hq
          have HP := Lib.hid hp
          have hS := heldR_S HP HQ hH
          obtain ⟨z, hz⟩ : ∃ z, z = cmpM p q := ⟨_, rfl⟩
          have HCm := Lib.hid (HC.out p q)
          rw [← hz] at HCm
          have e1 : IntKind.i64.wrap (k : Int) = (k : Int) := by rw [IntKind.wrap_i64]; omega
          have e2 : (k : Int) + 1 < (l.length : Int) := by omega
          have e3 : (k : Int) < (l.length : Int) := by omega
          have e4 : (0 : Int) ≤ (k : Int) + 1 := by omega
          have e5 : ((k : Int) + 1).toNat = k + 1 := by omega
          cases hx : lt q p with
          | true =>
            have hpos : ¬ z ≤ 0 := by rw [hz, cmpM_le, hx]; simp
            have HX := Lib.hid hx
            clear hq hp hH hz hx HC
            go_wp2
            go_region_held3 (fun W => W.cell? ⟨b, off + (k + 1) * 2, none⟩ = some (.int .i64 p.1) ∧ W.cell? ⟨b, off + (k + 1) * 2 + 1, none⟩ = some (.int .i64 p.2) ∧ W.cell? ⟨b, off + k * 2, none⟩ = some (.int .i64 q.1) ∧ W.cell? ⟨b, off + k * 2 + 1, none⟩ = some (.int .i64 q.2) ∧ HeldR w b off l W)
              ((go_split_ands; (first | exact heldR_S HP HQ (by assumption) | exact heldR_S HP HQ (HeldR.drew (by assumption)) | exact heldR_S HP HQ (HeldR.next (by assumption) (by assumption)))))
              (first | (go_at_call 25; (with_reducible refine (HCm.out _).mono ?_); rintro e w' ⟨rfl, hb⟩))
            have T := (show _ ∧ _ ∧ _ ∧ _ ∧ HeldR w b off l w' by assumption).2.2.2.2
            clear hS
            go_wp2
            go_roundw
            case rel => exact ⟨k + 1, by simp, by omega, T, fun j hj a c h1 h2 => by
              by_cases e : j = k
              · subst e
                rw [HQ.out] at h1; rw [HP.out] at h2; cases h1; cases h2; exact HX.out
              · exact HA.out j (by omega) a c h1 h2⟩
            case measure => simp [intOf]; omega
          | false =>
            have hpos : z ≤ 0 := by rw [hz, cmpM_le, hx]
            have HX := Lib.hid hx
            clear hq hp hH hz hx HC
            go_wp2
            go_region_held3 (fun W => W.cell? ⟨b, off + (k + 1) * 2, none⟩ = some (.int .i64 p.1) ∧ W.cell? ⟨b, off + (k + 1) * 2 + 1, none⟩ = some (.int .i64 p.2) ∧ W.cell? ⟨b, off + k * 2, none⟩ = some (.int .i64 q.1) ∧ W.cell? ⟨b, off + k * 2 + 1, none⟩ = some (.int .i64 q.2) ∧ HeldR w b off l W)
              ((go_split_ands; (first | exact heldR_S HP HQ (by assumption) | exact heldR_S HP HQ (HeldR.drew (by assumption)) | exact heldR_S HP HQ (HeldR.next (by assumption) (by assumption)))))
              (first | (go_at_call 25; (with_reducible refine (HCm.out _).mono ?_); rintro e w' ⟨rfl, hb⟩))
            have T := (show _ ∧ _ ∧ _ ∧ _ ∧ HeldR w b off l w' by assumption).2.2.2.2
            clear hS
            go_wp2
            go_ret
            exact ⟨by rw [HF.out, sortB_bad HQ.out HP.out HX.out]; rfl, T.2.2⟩
        · have hge : ¬ ((k : Int) + 1 < (l.length : Int)) := by omega
          have HG := Lib.hid (sortB_good h16 (fun j hj a c h1 h2 => HA.out j (by omega) a c h1 h2))
          have HB := hH.2.2
          clear hH
          go_wp2
          go_ret
          exact ⟨by rw [HF.out, HG.out]; rfl, HB⟩
  · have HL := Lib.hid (sortB_long h16)
    rcases hv with ⟨rfl, ao, cap, rfl⟩ | ⟨b, off, cap, rfl, hlc, hcm, hd⟩
    · simp at h16
    · have h16' : (16 : Int) < (l.length : Int) := by omega
      clear hd
      go_enter Tryd.func13, Tryd.ntmps13
      go_wp2
      go_ret
      exact ⟨by rw [HF.out, HL.out]; rfl, Below.refl _ _⟩

set_option maxHeartbeats 400000 in
theorem Tryd.First_none (ao : Option Addr) (cap : Nat) (w : World) :
    Calls Tryd.prog 16 #[.slice ao 0 cap] w fun e w' => e = .returned (.tuple #[.agg #[.int .i64 0, .int .i64 0], .bool false]) ∧ Below w.heap.size w w' := by
  go_enter Tryd.func16, Tryd.ntmps16
  go_wp2
  exact bodyPost_ret (v := .tuple #[.agg #[.int .i64 0, .int .i64 0], .bool false]) (by simp [results, Tryd.results16, go_sem]) rfl ⟨rfl, (Below.refl _ w).alloc (Nat.le_refl _) _⟩
set_option maxHeartbeats 400000 in
theorem Tryd.First_some (b off cap : Nat) (p : Mk) (r : List Mk) (w : World) (hl : (p :: r).length ≤ 2000000) (hd : DiagAt w b off (p :: r)) :
    Calls Tryd.prog 16 #[.slice (some ⟨b, off, none⟩) (p :: r).length cap] w fun e w' => e = .returned (.tuple #[.agg #[.int .i64 p.1, .int .i64 p.2], .bool true]) ∧ Below w.heap.size w w' := by
  obtain ⟨n, hn⟩ : ∃ n, n = (p :: r).length := ⟨_, rfl⟩
  have hn1 : 1 ≤ n := by rw [hn]; simp
  rw [← hn] at hl ⊢
  obtain ⟨x0, x1⟩ := hd.read (i := 0) (p := p) rfl
  simp only [Nat.zero_mul, Nat.add_zero] at x0 x1
  have hb := hd.1
  clear hd hn
  go_enter Tryd.func16, Tryd.ntmps16
  go_wp2
  exact bodyPost_ret (v := .tuple #[.agg #[.int .i64 p.1, .int .i64 p.2], .bool true]) (by simp [results, Tryd.results16, go_sem]) rfl ⟨rfl, (Below.refl _ w).alloc (Nat.le_refl _) _⟩
#print axioms Tryd.Sorted_any
#print axioms Tryd.First_some
end Go.Proofs
