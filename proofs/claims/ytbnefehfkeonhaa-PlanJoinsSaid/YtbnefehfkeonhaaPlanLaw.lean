/- What the laws of layer 9 call, all in one shape. Conditions: as each says. -/
import Derived.Test.YtbnefehfkeonhaaPlanLong
import Derived.Deep.RegionHeld3
import Derived.Test.YtbnefehfkeonhaaPlanShown
import Derived.Test.YtbnefehfkeonhaaPlanSame
import Derived.Test.YtbnefehfkeonhaaPlanRNorm
import Derived.Test.YtbnefehfkeonhaaPlanRCheck
import Derived.Test.YtbnefehfkeonhaaPlanRCount
namespace Go.Proofs
open Go.RowKit Go.Plans
theorem Try.P8 (v : Value) (rr : Rts) (W : World) (h : HasRts W v rr) : Calls Try.prog 8 #[.agg #[v]] W fun e w' => e = .returned (.bool (longR rr)) ∧ Below W.heap.size W w' := Try.long_calls v rr W h
theorem Try.P9 (W : World) : Calls Try.prog 9 #[] W fun e w' => e = .returned (.bool true) ∧ Below W.heap.size W w' := Try.planShown_calls W
theorem Try.P12 (v : Value) (rr : Rts) (W : World) (h : HasRts W v rr) : Calls Try.prog 12 #[.agg #[v]] W fun e w' => e = .returned (.agg #[v]) ∧ Below W.heap.size W w' := Try.its_calls v rr W h
/-- A plan that is not too long. -/
structure Fit (rr : Rts) : Prop where
  len : rr.length ≤ 410
  each : ∀ l ∈ rr, l.length ≤ 2100
  all : many rr ≤ 2100
theorem Fit.of {rr : Rts} (h : longR rr = false) : Fit rr := by obtain ⟨a, b, c⟩ := long_no h; exact ⟨a, b, c⟩
theorem Fit.two {rr : Rts} (h : Fit rr) : ∀ l ∈ rr, l.length ≤ 2000000 := fun l hl => by have := h.each l hl; omega
theorem Fit.norm {rr : Rts} (h : Fit rr) : Fit (normR rr) := ⟨Nat.le_trans (normR_len rr) h.len, fun l hl => h.each l (List.mem_filter.1 hl).1, by rw [norm_many]; exact h.all⟩
theorem Try.P10 (v : Value) (rr : Rts) (W : World) (hf : Fit rr) (h : HasRts W v rr) : Calls Try.prog 10 #[.agg #[v]] W fun e w' => e = .returned (.int .i64 (checkE rr)) ∧ Below W.heap.size W w' := Try.Check_calls v rr W (by have := hf.all; omega) h
theorem Try.P11 (v : Value) (rr : Rts) (W : World) (hf : Fit rr) (h : HasRts W v rr) : Calls Try.prog 11 #[.agg #[v]] W fun e w' => e = .returned (.int .i64 (checkE rr)) ∧ Below W.heap.size W w' := Try.RPlanCheck_calls v rr W (by have := hf.len; omega) hf.two (by have := hf.all; omega) h
theorem Try.P13 (v u : Value) (rr ss : Rts) (W : World) (hf : Fit rr) (h : HasRts W v rr) (hu : HasRts W u ss) : Calls Try.prog 13 #[.agg #[v], .agg #[u]] W fun e w' => e = .returned (.bool (decide (rr = ss))) ∧ Below W.heap.size W w' := Try.RPlanSame_calls v u rr ss W (by have := hf.len; omega) hf.two h hu
theorem Try.P18 (v u : Value) (rr ss : Rts) (W : World) (hf : Fit rr) (h : HasRts W v rr) (hu : HasRts W u ss) : Calls Try.prog 18 #[.agg #[v], .agg #[u]] W fun e w' => e = .returned (.bool (decide (rr = ss))) ∧ Below W.heap.size W w' := Try.Same_calls v u rr ss W (by have := hf.len; omega) hf.two h hu
theorem Try.P14 (v : Value) (rr : Rts) (W : World) (hf : Fit rr) (h : HasRts W v rr) : Calls Try.prog 14 #[.agg #[v]] W fun e w' => ∃ a c, e = .returned (.agg #[.slice a (normR rr).length c]) ∧ HasRts w' (.slice a (normR rr).length c) (normR rr) ∧ Below W.heap.size W w' :=
  (Try.Norm_calls v rr W (by have := hf.len; omega) hf.two h).mono fun e w' ⟨u, h1, h2, h3⟩ => by obtain ⟨a, c, rfl⟩ := h2.len; exact ⟨a, c, h1, h2, h3⟩
theorem Try.P15 (v : Value) (rr : Rts) (W : World) (hf : Fit rr) (h : HasRts W v rr) : Calls Try.prog 15 #[.agg #[v]] W fun e w' => ∃ a c, e = .returned (.agg #[.slice a (normR rr).length c]) ∧ HasRts w' (.slice a (normR rr).length c) (normR rr) ∧ Below W.heap.size W w' :=
  (Try.RPlanNorm_calls v rr W (by have := hf.len; omega) hf.two h).mono fun e w' ⟨u, h1, h2, h3⟩ => by obtain ⟨a, c, rfl⟩ := h2.len; exact ⟨a, c, h1, h2, h3⟩
theorem Try.P16 (v : Value) (rr : Rts) (W : World) (hm : many rr ≤ 4611686018427387904) (h : HasRts W v rr) : Calls Try.prog 16 #[.agg #[v]] W fun e w' => e = .returned (.int .i64 (many rr : Int)) ∧ Below W.heap.size W w' := Try.Many_calls v rr W hm h
theorem Try.P17 (v : Value) (rr : Rts) (W : World) (hf : Fit rr) (h : HasRts W v rr) : Calls Try.prog 17 #[.agg #[v]] W fun e w' => e = .returned (.int .i64 (many rr : Int)) ∧ Below W.heap.size W w' := Try.RMany_calls v rr W (by have := hf.len; omega) (by have := hf.all; omega) h
/-- What Find answers, in three. -/
def fI (o : Option (Nat × Nat)) : Int := match o with | some p => p.1 | none => 0
def fK (o : Option (Nat × Nat)) : Int := match o with | some p => p.2 | none => 0
def fB (o : Option (Nat × Nat)) : Bool := o.isSome
theorem findV_is (o : Option (Nat × Nat)) : findV o = .tuple #[.int .i64 (fI o), .int .i64 (fK o), .bool (fB o)] := by cases o <;> rfl
theorem Try.P19 (v : Value) (rr : Rts) (s : Int) (W : World) (h : HasRts W v rr) : Calls Try.prog 19 #[.agg #[v], .int .i64 s] W fun e w' => e = .returned (.tuple #[.int .i64 (fI (findR s rr)), .int .i64 (fK (findR s rr)), .bool (fB (findR s rr))]) ∧ Below W.heap.size W w' :=
  (Try.Find_calls v rr s W h).mono fun e w' h => ⟨h.1.trans (by rw [findV_is]), h.2⟩
theorem Try.P20 (v : Value) (rr : Rts) (s : Int) (W : World) (hf : Fit rr) (h : HasRts W v rr) : Calls Try.prog 20 #[.agg #[v], .int .i64 s] W fun e w' => e = .returned (.tuple #[.int .i64 (fI (findR s rr)), .int .i64 (fK (findR s rr)), .bool (fB (findR s rr))]) ∧ Below W.heap.size W w' :=
  (Try.RFind_calls v rr s W (by have := hf.len; omega) hf.two h).mono fun e w' h => ⟨h.1.trans (by rw [findV_is]), h.2⟩
/-- What Count answers. -/
def cntX (rr : Rts) (x : Int) : List Int := if 1 ≤ x ∧ x ≤ 400 then countL rr x.toNat else []
theorem cntX_in (rr : Rts) {N : Nat} (h1 : 1 ≤ N) (h4 : N ≤ 400) : cntX rr (N : Int) = countL rr N := by
  unfold cntX; rw [if_pos (by omega)]; rfl
theorem cntX_out (rr : Rts) {x : Int} (h : x < 1 ∨ 400 < x) : cntX rr x = [] := by
  unfold cntX; rw [if_neg (by omega)]
theorem cntX_len (rr : Rts) (x : Int) : (cntX rr x).length ≤ 400 := by
  unfold cntX
  split
  · rw [countL_len]; omega
  · simp
theorem Try.P22 (v : Value) (rr : Rts) (x : Int) (W : World) (hm : many rr ≤ 4611686018427387904) (h : HasRts W v rr) : Calls Try.prog 22 #[.agg #[v], .int .i64 x] W fun e w' => ∃ a c, e = .returned (.slice a (cntX rr x).length c) ∧ HasInts w' (.slice a (cntX rr x).length c) (cntX rr x) ∧ Below W.heap.size W w' := by
  by_cases hx : 1 ≤ x ∧ x ≤ 400
  · obtain ⟨N, rfl⟩ : ∃ N : Nat, x = (N : Int) := ⟨x.toNat, by omega⟩
    rw [cntX_in rr (by omega) (by omega)]
    refine (Try.Count_in v rr N W (by omega) (by omega) hm h).mono ?_
    rintro e w' ⟨g, rfl, h1, h2⟩
    have e0 : (countL rr N).length = N := countL_len rr N
    refine ⟨some ⟨g, 0, none⟩, N, by rw [e0], ?_, h2⟩
    have := hasInts_of_owns (W := w') (base := W.heap.size) (e := 3) (v := .slice (some ⟨g, 0, none⟩) N N) (l := countL rr N) (by rw [e0]; exact h1)
    rw [e0]; exact this
  · rw [cntX_out rr (by omega)]
    refine (Try.Count_out v rr x W (by omega) h).mono ?_
    rintro e w' ⟨rfl, h2⟩
    exact ⟨none, 0, rfl, HasInts.nil _, h2⟩
theorem Try.P23 (v : Value) (rr : Rts) (x : Int) (W : World) (hf : Fit rr) (h : HasRts W v rr) : Calls Try.prog 23 #[.agg #[v], .int .i64 x] W fun e w' => ∃ a c, e = .returned (.slice a (cntX rr x).length c) ∧ HasInts w' (.slice a (cntX rr x).length c) (cntX rr x) ∧ Below W.heap.size W w' := by
  by_cases hx : 1 ≤ x ∧ x ≤ 400
  · obtain ⟨N, rfl⟩ : ∃ N : Nat, x = (N : Int) := ⟨x.toNat, by omega⟩
    rw [cntX_in rr (by omega) (by omega)]
    refine (Try.RPlanCount_in v rr N W (by omega) (by omega) (by have := hf.len; omega) hf.two (by have := hf.all; omega) h).mono ?_
    rintro e w' ⟨u, rfl, h1, h2⟩
    have h3 := hasInts_of_owns h1
    obtain ⟨a, c, rfl⟩ := h3.len
    exact ⟨a, c, rfl, h3, h2⟩
  · rw [cntX_out rr (by omega)]
    refine (Try.RPlanCount_out v rr x W (by omega) h).mono ?_
    rintro e w' ⟨u, rfl, h1, h2⟩
    have h3 := hasInts_of_owns (l := []) h1
    obtain ⟨a, c, rfl⟩ := h3.len
    exact ⟨a, c, rfl, h3, h2⟩
theorem Try.P21 (v u : Value) (l r : List Int) (W : World) (hl : l.length ≤ 2000000) (h : HasInts W v l) (hu : HasInts W u r) : Calls Try.prog 21 #[v, u] W fun e w' => e = .returned (.bool (decide (l = r))) ∧ Below W.heap.size W w' := Try.RInts_calls v u l r W hl h hu

/-- What stands in a law of plans: three boxes, and what they read as. -/
structure PB (w : World) (a b c : Nat) (v : Value) (rr : Rts) (u : Value) (ss : Rts) (x : Value) (tt : Rts) (W : World) : Prop where
  ba : BoxAt W a v
  bb : BoxAt W b u
  bc : BoxAt W c x
  iv : HasRts W v rr
  iu : HasRts W u ss
  ix : HasRts W x tt
  below : Below w.heap.size w W
theorem PB.next {w W W' : World} {a b c : Nat} {v u x : Value} {rr ss tt : Rts} (h : PB w a b c v rr u ss x tt W) (hb : Below W.heap.size W W') : PB w a b c v rr u ss x tt W' :=
  ⟨h.ba.next hb, h.bb.next hb, h.bc.next hb, h.iv.next hb, h.iu.next hb, h.ix.next hb, h.below.trans (hb.mono h.below.size)⟩
theorem PB.drew {w W : World} {a b c : Nat} {v u x : Value} {rr ss tt : Rts} (h : PB w a b c v rr u ss x tt W) : PB w a b c v rr u ss x tt W.drew := h.next (Below.refl _ _).drew
def PS (w : World) (a b c : Nat) (v : Value) (rr : Rts) (u : Value) (ss : Rts) (x : Value) (tt : Rts) (W : World) : Prop :=
  W.cell? ⟨a, 0, none⟩ = some v ∧ W.cell? ⟨b, 0, none⟩ = some u ∧ W.cell? ⟨c, 0, none⟩ = some x ∧ PB w a b c v rr u ss x tt W
theorem PB.all {w W : World} {a b c : Nat} {v u x : Value} {rr ss tt : Rts} (h : PB w a b c v rr u ss x tt W) : PS w a b c v rr u ss x tt W := ⟨h.ba.1, h.bb.1, h.bc.1, h⟩
theorem PB.two {w : World} {v u : Value} {rr ss : Rts} (hv : HasRts w v rr) (hu : HasRts w u ss) : PB w w.heap.size (w.heap.size + 1) w.heap.size v rr u ss v rr ((w.alloc (.cells #[v] 24)).alloc (.cells #[u] 24)) := by
  have h1 := (Below.refl w.heap.size w).alloc (Nat.le_refl _) (.cells #[v] 24)
  have h2 := (Below.refl (w.alloc (.cells #[v] 24)).heap.size (w.alloc (.cells #[v] 24))).alloc (Nat.le_refl _) (.cells #[u] 24)
  have hb := h1.trans (h2.mono h1.size)
  have b2 := BoxAt.new (w.alloc (.cells #[v] 24)) u 24
  rw [show (w.alloc (.cells #[v] 24)).heap.size = w.heap.size + 1 by simp] at b2
  exact ⟨(BoxAt.new w v 24).next h2, b2, (BoxAt.new w v 24).next h2, hv.next hb, hu.next hb, hv.next hb, hb⟩
theorem PB.one {w : World} {v : Value} {rr : Rts} (hv : HasRts w v rr) : PB w w.heap.size w.heap.size w.heap.size v rr v rr v rr (w.alloc (.cells #[v] 24)) := by
  have h1 := (Below.refl w.heap.size w).alloc (Nat.le_refl _) (.cells #[v] 24)
  exact ⟨BoxAt.new w v 24, BoxAt.new w v 24, BoxAt.new w v 24, hv.next h1, hv.next h1, hv.next h1, h1⟩
end Go.Proofs
