/- Slices of ints: what they hold; the document's own Ints of layer 7. Conditions: at most two million numbers. -/
import Derived.Test.YtbnefehfkeonhaaLayoutRef
import Derived.Laws.AppendOwn
import Derived.Laws.OwnMore
import Derived.Laws.MakeOwn
import Derived.Lib.QuietBelow
import Derived.RangeFuncRecord
import Derived.Deep.QuietTactic
import Derived.BigQuiet
namespace Go.Proofs
open Go.RowKit Go.Shelf Go.Layout
attribute [local go_sem] Oper.semAt_some

/-- The cells of a list's numbers, from an address on. -/
def IntAt (W : World) (b off : Nat) (l : List Int) : Prop := b < W.heap.size ∧ ∀ i x, l[i]? = some x → W.cell? ⟨b, off + i, none⟩ = some (.int .i64 x)
/-- A slice that reads as l. -/
def HasInts (W : World) (v : Value) (l : List Int) : Prop := (l = [] ∧ ∃ ao cap, v = .slice ao 0 cap) ∨ ∃ b off cap, v = .slice (some ⟨b, off, none⟩) l.length cap ∧ l.length ≤ cap ∧ cap ≤ maxLen ∧ IntAt W b off l
theorem IntAt.below {B b off : Nat} {W W' : World} {l : List Int} (h : IntAt W b off l) (hb : Below B W W') (hlt : b < B) : IntAt W' b off l :=
  ⟨Nat.lt_of_lt_of_le h.1 hb.size, fun i x hi => (hb.cell (p := ⟨b, off + i, none⟩) hlt).trans (h.2 i x hi)⟩
theorem IntAt.next {b off : Nat} {W W' : World} {l : List Int} (h : IntAt W b off l) (hb : Below W.heap.size W W') : IntAt W' b off l := h.below hb h.1
theorem HasInts.next {W W' : World} {v : Value} {l : List Int} (h : HasInts W v l) (hb : Below W.heap.size W W') : HasInts W' v l := by
  rcases h with h | ⟨b, off, cap, h1, h2, h3, h4⟩
  · exact .inl h
  · exact .inr ⟨b, off, cap, h1, h2, h3, h4.next hb⟩
theorem HasInts.nil (W : World) : HasInts W (.slice none 0 0) [] := .inl ⟨rfl, none, 0, rfl⟩
theorem HasInts.len {W : World} {v : Value} {l : List Int} (h : HasInts W v l) : ∃ ao cap, v = .slice ao l.length cap := by
  rcases h with ⟨rfl, ao, cap, rfl⟩ | ⟨b, off, cap, rfl, _⟩
  · exact ⟨ao, cap, rfl⟩
  · exact ⟨_, cap, rfl⟩
def intV (x : Int) : Value := .int .i64 x
theorem hasInts_of_owns {W : World} {base : Nat} {e : TypeId} {v : Value} {l : List Int} (h : W.ownsRow base e 1 v l.length (l.map intV)) : HasInts W v l := by
  rcases h.2 with ⟨rfl, h0⟩ | ⟨g, cap, cur, rfl, h1, h2, h3, h4, _⟩
  · exact .inl ⟨List.eq_nil_of_length_eq_zero h0, none, 0, rfl⟩
  · refine .inr ⟨g, 0, cap, rfl, h3, h4, (Array.getElem?_eq_some_iff.1 h2).1, fun i x hi => ?_⟩
    have hlt : i < l.length := (List.getElem?_eq_some_iff.1 hi).1
    rw [Nat.zero_add, World.ownsRow.cellAt h i (by omega)]
    simp [hi, intV]

theorem lbelow_drewN {B : Nat} {a w : World} (h : Below B a w) (n : Nat) : Below B a (w.drewN n) := ⟨h.os, h.tape, h.output, h.size, h.block⟩
theorem take_same {l r : List Int} {k : Nat} {x y : Int} (hl : l[k]? = some x) (hr : r[k]? = some y) (h : l.take k = r.take k) : l.take (k + 1) = r.take (k + 1) ↔ x = y := by
  rw [List.take_add_one, List.take_add_one, hl, hr, h]
  simp
theorem ne_at {l r : List Int} {k : Nat} {x y : Int} (hl : l[k]? = some x) (hr : r[k]? = some y) (h : x ≠ y) : l ≠ r := fun e => h (by rw [e, hr] at hl; exact (Option.some.inj hl).symm)

set_option maxRecDepth 100000 in
set_option maxHeartbeats 1000000 in
theorem Try.RInts_some (b off cap b' off' cap' : Nat) (l r : List Int) (w : World) (hl : l.length ≤ 2000000) (he : l.length = r.length) (hv : IntAt w b off l) (hu : IntAt w b' off' r) :
    Calls Try.prog 21 #[.slice (some ⟨b, off, none⟩) l.length cap, .slice (some ⟨b', off', none⟩) r.length cap'] w fun e w' => e = .returned (.bool (decide (l = r))) ∧ Below w.heap.size w w' := by
  have HV := Lib.hid hv
  have HU := Lib.hid hu
  rw [← he]
  obtain ⟨n, hn⟩ : ∃ n, l.length = n := ⟨_, rfl⟩
  rw [hn] at hl he ⊢
  have HN := Lib.hid hn
  have HE := Lib.hid he
  clear hn he hv hu
  go_enter Try.func21, Try.ntmps21
  go_wp2
  go_loopw [5] (fun i wr => ∃ k : Nat, k ≤ n ∧ i = .int .i64 (k : Int) ∧ Hid (l.take k = r.take k) ∧ Below w.heap.size w wr) (fun i _ => n - (intOf i).toNat)
  case atStart => exact ⟨0, Nat.zero_le _, rfl, rfl, Below.refl _ _⟩
  case round =>
    obtain ⟨k, hk, rfl, hT, hB⟩ := hrel
    by_cases hlt : k < n
    · obtain ⟨x, hx⟩ : ∃ x, l[k]? = some x := ⟨_, List.getElem?_eq_getElem (by have := HN.out; omega)⟩
      obtain ⟨y, hy⟩ : ∃ y, r[k]? = some y := ⟨_, List.getElem?_eq_getElem (by have := HE.out; omega)⟩
      have x0 := (hB.cell (p := ⟨b, off + k, none⟩) HV.out.1).trans (HV.out.2 k x hx)
      have y0 := (hB.cell (p := ⟨b', off' + k, none⟩) HU.out.1).trans (HU.out.2 k y hy)
      have hki : (k : Int) < (n : Int) := by omega
      by_cases hxy : x = y
      · subst hxy
        have d : (x != x) = false := bne_self_eq_false x
        have HT := Lib.hid ((take_same hx hy hT.out).2 rfl)
        clear hx hy hT
        go_wp2
        go_quiet (fail)
        go_wp2
        go_roundw
        case rel => exact ⟨k + 1, by omega, by go_num, HT, lbelow_drewN hB _⟩
        case measure => simp [intOf]; omega
      · have d : (x != y) = true := bne_iff_ne.2 hxy
        have HF := Lib.hid (decide_eq_false (ne_at hx hy hxy))
        clear hx hy hT hxy
        go_wp2
        go_quiet (fail)
        go_wp2
        go_ret
        exact ⟨lret_is HF.out.symm, lbelow_drewN hB _⟩
    · obtain rfl : k = n := by omega
      have HF : Hid (decide (l = r) = true) := by
        unfold Hid
        have h := hT.out
        rw [List.take_of_length_le (by have := HN.out; omega), List.take_of_length_le (by have := HE.out; omega)] at h
        exact decide_eq_true h
      go_wp2
      go_ret
      exact ⟨lret_is HF.out.symm, hB⟩

set_option maxRecDepth 100000 in
theorem Try.RInts_far (ao ao' : Option Addr) (n n' cap cap' : Nat) (w : World) (h : n ≠ n') :
    Calls Try.prog 21 #[.slice ao n cap, .slice ao' n' cap'] w fun e w' => e = .returned (.bool false) ∧ w' = w := by
  have d : ((n : Int) != (n' : Int)) = true := bne_iff_ne.2 (by omega)
  go_enter Try.func21, Try.ntmps21
  go_wp2
  go_ret
  exact ⟨rfl, rfl⟩
set_option maxRecDepth 100000 in
theorem Try.RInts_nil (ao ao' : Option Addr) (cap cap' : Nat) (w : World) :
    Calls Try.prog 21 #[.slice ao 0 cap, .slice ao' 0 cap'] w fun e w' => e = .returned (.bool true) ∧ w' = w := by
  go_enter Try.func21, Try.ntmps21
  go_wp2
  go_loop [5] (fun i => i = .int .i64 0) (fun _ => 0)
  case atStart => rfl
  case round =>
    obtain rfl := hrel
    go_wp2
    go_ret
    exact ⟨rfl, rfl⟩
theorem Try.RInts_calls (v u : Value) (l r : List Int) (w : World) (hl : l.length ≤ 2000000) (hv : HasInts w v l) (hu : HasInts w u r) :
    Calls Try.prog 21 #[v, u] w fun e w' => e = .returned (.bool (decide (l = r))) ∧ Below w.heap.size w w' := by
  by_cases he : l.length = r.length
  · rcases hv with ⟨rfl, ao, cap, rfl⟩ | ⟨b, off, cap, rfl, _, _, hv⟩
    · have hr : r = [] := List.eq_nil_of_length_eq_zero (by simpa using he.symm)
      subst hr
      obtain ⟨ao', cap', rfl⟩ := hu.len
      exact (Try.RInts_nil ao ao' cap cap' w).mono fun e w' ⟨h1, h2⟩ => ⟨by rw [h1]; rfl, h2 ▸ Below.refl _ _⟩
    · rcases hu with ⟨rfl, ao', cap', rfl⟩ | ⟨b', off', cap', rfl, _, _, hu⟩
      · have hr : l = [] := List.eq_nil_of_length_eq_zero (by simpa using he)
        subst hr
        exact (Try.RInts_nil _ ao' cap cap' w).mono fun e w' ⟨h1, h2⟩ => ⟨by rw [h1]; rfl, h2 ▸ Below.refl _ _⟩
      · exact Try.RInts_some b off cap b' off' cap' l r w hl he hv hu
  · obtain ⟨ao, cap, rfl⟩ := hv.len
    obtain ⟨ao', cap', rfl⟩ := hu.len
    exact (Try.RInts_far ao ao' _ _ cap cap' w he).mono fun e w' ⟨h1, h2⟩ => ⟨by rw [h1, decide_eq_false (fun e => he (by rw [e]))], h2 ▸ Below.refl _ _⟩
#print axioms Try.RInts_calls
end Go.Proofs
