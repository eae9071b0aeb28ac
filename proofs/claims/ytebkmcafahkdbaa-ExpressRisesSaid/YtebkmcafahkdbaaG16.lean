/- The makers of looks: kindAmong, keyword, tenths and their like. Conditions: an instance that stands. -/
import Derived.Test.YtebkmcafahkdbaaG15
import Derived.Test.YtebkmcafahkdbaaShelf
namespace Go.Proofs
open Go.RowKit Go.Shelf Go.Canon Go.Expr
attribute [local go_sem] Oper.semAt_some
theorem Try.noName_calls {x : Ins} {vn vm : Value} (w : World) (hx : HasIns w vn vm x) :
    Calls Try.prog 26 #[] w fun e w' => ∃ v', e = .returned v' ∧ IsLook x vn vm v' 1 (decide (x.name.toList = [108, 105, 108, 105, 109])) w' ∧ Below w.heap.size w w' := by
  have HW := Lib.hid (Try.whole_calls (v := .func (.func 44) #[] #[]) 1 w hx ⟨44, #[], rfl, Try.enters_noName, Try.fit_noName x vn vm w⟩)
  clear hx
  go_enter Try.func26, Try.ntmps26
  go_wp2_with (go_at_call 31; (with_reducible refine HW.out.mono ?_); rintro e w1 ⟨v1, rfl, hv1, hb1⟩; have HV := Lib.hid hv1; obtain ⟨g1, lb1, rfl, _, _⟩ := hv1)
  go_ret
  exact ⟨_, rfl, HV.out, hb1⟩
theorem Try.keyword_calls {x : Ins} {vn vm : Value} (w : World) (hx : HasIns w vn vm x) :
    Calls Try.prog 18 #[] w fun e w' => ∃ v', e = .returned v' ∧ IsLook x vn vm v' 3 (decide (x.metric ≠ 6) && metricB x.metric) w' ∧ Below w.heap.size w w' := by
  have HW := Lib.hid (Try.whole_calls (v := .func (.func 34) #[] #[]) 3 w hx ⟨34, #[], rfl, Try.enters_keyword, Try.fit_keyword x vn vm w⟩)
  clear hx
  go_enter Try.func18, Try.ntmps18
  go_wp2_with (go_at_call 31; (with_reducible refine HW.out.mono ?_); rintro e w1 ⟨v1, rfl, hv1, hb1⟩; have HV := Lib.hid hv1; obtain ⟨g1, lb1, rfl, _, _⟩ := hv1)
  go_ret
  exact ⟨_, rfl, HV.out, hb1⟩
theorem Try.tenths_calls {x : Ins} {vn vm : Value} (w : World) (hx : HasIns w vn vm x) :
    Calls Try.prog 24 #[] w fun e w' => ∃ v', e = .returned v' ∧ IsLook x vn vm v' 3 (decide (x.metric = 6)) w' ∧ Below w.heap.size w w' := by
  have HW := Lib.hid (Try.whole_calls (v := .func (.func 42) #[] #[]) 3 w hx ⟨42, #[], rfl, Try.enters_tenths, Try.fit_tenths x vn vm w⟩)
  clear hx
  go_enter Try.func24, Try.ntmps24
  go_wp2_with (go_at_call 31; (with_reducible refine HW.out.mono ?_); rintro e w1 ⟨v1, rfl, hv1, hb1⟩; have HV := Lib.hid hv1; obtain ⟨g1, lb1, rfl, _, _⟩ := hv1)
  go_ret
  exact ⟨_, rfl, HV.out, hb1⟩
theorem Try.unscaled_calls {x : Ins} {vn vm : Value} (w : World) (hx : HasIns w vn vm x) :
    Calls Try.prog 27 #[] w fun e w' => ∃ v', e = .returned v' ∧ IsLook x vn vm v' 4 (decide (x.scale = 0)) w' ∧ Below w.heap.size w w' := by
  have HW := Lib.hid (Try.whole_calls (v := .func (.func 45) #[] #[]) 4 w hx ⟨45, #[], rfl, Try.enters_unscaled, Try.fit_unscaled x vn vm w⟩)
  clear hx
  go_enter Try.func27, Try.ntmps27
  go_wp2_with (go_at_call 31; (with_reducible refine HW.out.mono ?_); rintro e w1 ⟨v1, rfl, hv1, hb1⟩; have HV := Lib.hid hv1; obtain ⟨g1, lb1, rfl, _, _⟩ := hv1)
  go_ret
  exact ⟨_, rfl, HV.out, hb1⟩
theorem Try.anyFleet_calls {x : Ins} {vn vm : Value} (w : World) (hx : HasIns w vn vm x) :
    Calls Try.prog 19 #[] w fun e w' => ∃ v', e = .returned v' ∧ IsLook x vn vm v' 6 (decide (x.fleet = 0)) w' ∧ Below w.heap.size w w' := by
  have HW := Lib.hid (Try.whole_calls (v := .func (.func 36) #[] #[]) 6 w hx ⟨36, #[], rfl, Try.enters_anyFleet, Try.fit_anyFleet x vn vm w⟩)
  clear hx
  go_enter Try.func19, Try.ntmps19
  go_wp2_with (go_at_call 31; (with_reducible refine HW.out.mono ?_); rintro e w1 ⟨v1, rfl, hv1, hb1⟩; have HV := Lib.hid hv1; obtain ⟨g1, lb1, rfl, _, _⟩ := hv1)
  go_ret
  exact ⟨_, rfl, HV.out, hb1⟩
theorem Try.someFleet_calls {x : Ins} {vn vm : Value} (w : World) (hx : HasIns w vn vm x) :
    Calls Try.prog 25 #[] w fun e w' => ∃ v', e = .returned v' ∧ IsLook x vn vm v' 6 (decide (1 ≤ x.fleet)) w' ∧ Below w.heap.size w w' := by
  have HW := Lib.hid (Try.whole_calls (v := .func (.func 43) #[] #[]) 6 w hx ⟨43, #[], rfl, Try.enters_someFleet, Try.fit_someFleet x vn vm w⟩)
  clear hx
  go_enter Try.func25, Try.ntmps25
  go_wp2_with (go_at_call 31; (with_reducible refine HW.out.mono ?_); rintro e w1 ⟨v1, rfl, hv1, hb1⟩; have HV := Lib.hid hv1; obtain ⟨g1, lb1, rfl, _, _⟩ := hv1)
  go_ret
  exact ⟨_, rfl, HV.out, hb1⟩
theorem Try.enters_kindAmong : ∀ args w, (callFunc 32 args).run Try.prog w = .ok (.enter 32 args) w := enters_of Try.func32 (by kernel_rfl) rfl
theorem contains_mem {l : List Int} {k : Int} : (l.take l.length).contains k = decide (k ∈ l) := by
  rw [List.take_length]
  by_cases h : k ∈ l <;> simp [h]
theorem Try.Contains_ints {v : Value} {l : List Int} (k : Int) (w : World) (hl : l.length ≤ 1000000) (hv : HasNums w v l) :
    Calls Try.prog 33 #[v, .int .i64 k] w fun e w' => e = .returned (.bool (decide (k ∈ l))) ∧ w' = w := by
  rcases hv with ⟨rfl, ao, cap, rfl⟩ | ⟨b, off, cap, rfl, h1, h2, h3⟩
  · exact (Try.slices_Contains_int_empty ao cap k w).mono fun e w' h => ⟨h.1.trans (by simp), h.2⟩
  · exact (Try.slices_Contains_int b off l.length cap l k w (Nat.le_refl _) (by omega) fun j hj => h3.2 j _ (by simp [List.getD, hj])).mono fun e w' h => ⟨h.1.trans (by rw [contains_mem]), h.2⟩
set_option maxRecDepth 100000 in
theorem Try.fit_kindAmong {x : Ins} {vn vm v : Value} {l : List Int} {b : Nat} {w : World} (hl : l.length ≤ 1000000) (hv : HasNums w v l) (hb : Box w b v) :
    FitC x vn vm 32 #[.pointer (some ⟨b, 0, none⟩)] (decide (x.kind ∈ l)) w := by
  intro W hW
  have q0 : Below W.heap.size W (W.alloc (.cells #[.string x.name, .int .i64 x.kind, .int .i64 x.metric, .int .i64 x.scale, .int .i64 x.cap, .int .i64 x.fleet, vn, vm] 25)) := fbelow_box W _
  have q1 := hW.trans (q0.mono hW.size)
  have HC := Lib.hid (Try.Contains_ints x.kind _ hl (hv.next q1))
  have h0 := (hb.later hW hb.1).2
  have l0 := (hb.later hW hb.1).1
  have HB := Lib.hid q0
  unfold insV
  obtain ⟨a, c, rfl, _⟩ := hv.dat
  clear hl hv q0 q1 hW hb
  generalize decide (x.kind ∈ l) = z at *
  generalize l.length = L at *
  cases z
  all_goals
    go_enter Try.func32, Try.ntmps32
    go_wp2_with (go_at_call 33; (with_reducible refine HC.out.mono ?_); rintro e w1 ⟨rfl, rfl⟩)
    go_ret
    exact ⟨rfl, HB.out⟩
theorem Try.kindAmong_calls {x : Ins} {vn vm v : Value} {l : List Int} (w : World) (hx : HasIns w vn vm x) (hl : l.length ≤ 1000000) (hv : HasNums w v l) :
    Calls Try.prog 17 #[v] w fun e w' => ∃ v', e = .returned v' ∧ IsLook x vn vm v' 2 (decide (x.kind ∈ l)) w' ∧ Below w.heap.size w w' := by
  have k1 : Below w.heap.size w (w.alloc (.cells #[v] 23)) := fbelow_box _ _
  have HW := Lib.hid (Try.whole_calls (v := .func (.func 32) #[] #[.pointer (some ⟨w.heap.size, 0, none⟩)]) 2 _ (hx.next k1) ⟨32, _, rfl, Try.enters_kindAmong, Try.fit_kindAmong (x := x) (vn := vn) (vm := vm) hl (hv.next k1) (Box.new w v 23)⟩)
  have HB := Lib.hid k1
  obtain ⟨a, c, rfl, _⟩ := hv.dat
  clear hx hl k1 hv
  generalize l.length = L at *
  go_enter Try.func17, Try.ntmps17
  go_wp2_with (go_at_call 31; (with_reducible refine HW.out.mono ?_); rintro e w1 ⟨v1, rfl, hv1, hb1⟩; have HV := Lib.hid hv1; obtain ⟨g1, lb1, rfl, _, _⟩ := hv1)
  go_ret
  exact ⟨_, rfl, HV.out, HB.out.trans (hb1.mono HB.out.size)⟩
end Go.Proofs
