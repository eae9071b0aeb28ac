/- The law's shown: it is always true. Conditions: none. -/
import Derived.Test.YtogpnkahgkidpaaCanonNormP
import Derived.Test.YtogpnkahgkidpaaCanonCheckP
import Derived.Test.YtogpnkahgkidpaaCanonLong
namespace Go.Proofs
open Go.RowKit Go.Shelf Go.Canon
attribute [local go_sem] Oper.semAt_some

/-- An instance in its box. -/
def IBox (W : World) (b : Nat) (x : Ins) (vn vm : Value) : Prop := W.heap[b]? = some (.cells #[.string x.name, .int .i64 x.kind, .int .i64 x.metric, .int .i64 x.scale, .int .i64 x.cap, .int .i64 x.fleet, vn, vm] 25)
theorem IBox.next {W W' : World} {b : Nat} {x : Ins} {vn vm : Value} (h : IBox W b x vn vm) (hb : Below W.heap.size W W') : IBox W' b x vn vm :=
  (hb.block _ (Array.getElem?_eq_some_iff.1 h).1).trans h
theorem IBox.new (W : World) (x : Ins) (vn vm : Value) : IBox (W.alloc (.cells #[.string x.name, .int .i64 x.kind, .int .i64 x.metric, .int .i64 x.scale, .int .i64 x.cap, .int .i64 x.fleet, vn, vm] 25)) W.heap.size x vn vm := World.alloc_heap_new _ _
theorem IBox.p {W : World} {b : Nat} {x : Ins} {vn vm : Value} (h : IBox W b x vn vm) (j : Nat) : W.cell? ⟨b, j, none⟩ = (#[Value.string x.name, .int .i64 x.kind, .int .i64 x.metric, .int .i64 x.scale, .int .i64 x.cap, .int .i64 x.fleet, vn, vm] : Array Value)[j]? := by
  unfold World.cell?; rw [show W.heap[b]? = _ from h]; rfl
theorem IBox.lt {W : World} {b : Nat} {x : Ins} {vn vm : Value} (h : IBox W b x vn vm) : b < W.heap.size := (Array.getElem?_eq_some_iff.1 h).1
def tourM : Ins := ⟨⟨#[116]⟩, 1, 1, 0, 0, 0, [⟨1, 0, 0, 0, 0, 0, 0⟩, ⟨0, 2, 0, 0, 0, 0, 0⟩, ⟨3, 4, 0, 0, 0, 0, 0⟩], []⟩
theorem norm_tour : norm tourI = tourM := by decide +kernel
def voidI : Ins := ⟨⟨#[]⟩, 0, 0, 0, 0, 0, [], []⟩
theorem check_void : checkL nameB voidI = [(1, 0), (2, 0), (5, 0), (7, 0)] := by decide +kernel
theorem well_tour : wellB nameB tourI = true := by decide +kernel
theorem tour_ne : decide (tourI = tourM) = false := by decide +kernel
theorem tour64 : ∀ d ∈ tourI.nodes, In64 d := by
  intro d hd
  simp only [tourI, tourN, List.mem_cons, List.not_mem_nil, or_false] at hd
  rcases hd with rfl | rfl | rfl <;> (unfold In64; decide)
set_option maxRecDepth 100000 in
set_option maxHeartbeats 4000000 in
theorem Try.shown_calls (w : World) :
    Calls Try.prog 10 #[] w fun e w' => e = .returned (.bool true) ∧ Below w.heap.size w w' := by
  have HT := Lib.hid (fun W => Try.ltour_calls W)
  have HN := Lib.hid (fun vn vm W h => Try.norm_calls tourI vn vm W h (by decide) (by decide) tour64)
  have HC := Lib.hid (fun W => Try.check_calls voidI (.slice none 0 0) (.slice none 0 0) W ⟨.inl ⟨rfl, _, _, rfl⟩, .inl ⟨rfl, _, _, rfl⟩⟩ (by decide) (by decide))
  have HW := Lib.hid (fun vn vm W h => Try.well_calls tourI vn vm W h (by decide) (by decide))
  have HS := Lib.hid (fun un um vn vm W h1 h2 => Try.same_calls tourI tourM un um vn vm W h1 h2 (by decide) (by decide) (by decide))
  rw [norm_tour] at HN
  rw [check_void] at HC
  rw [well_tour] at HW
  rw [tour_ne] at HS
  go_enter Try.func10, Try.ntmps10
  go_wp2_with (fail)
  refine (HT.out _).mono ?_
  rintro e w1 ⟨vn, rfl, hI1, hb1⟩
  have I1 := Lib.hid hI1
  obtain ⟨an, cn, rfl, _⟩ := hI1.nodes.dat
  have X1 := Lib.hid (IBox.new w1 tourI (.slice an tourI.nodes.length cn) (.slice none 0 0))
  have B1 := Lib.hid (hb1.alloc hb1.size (.cells #[.string tourI.name, .int .i64 tourI.kind, .int .i64 tourI.metric, .int .i64 tourI.scale, .int .i64 tourI.cap, .int .i64 tourI.fleet, .slice an tourI.nodes.length cn, .slice none 0 0] 25))
  have IX := Lib.hid (hI1.next (below_box w1 (.cells #[.string tourI.name, .int .i64 tourI.kind, .int .i64 tourI.metric, .int .i64 tourI.scale, .int .i64 tourI.cap, .int .i64 tourI.fleet, .slice an tourI.nodes.length cn, .slice none 0 0] 25)))
  clear hI1 hb1 I1 HT
  unfold insV at *
  go_upto_region 2 with (fail)
  generalize hV : w1.alloc (.cells #[.string tourI.name, .int .i64 tourI.kind, .int .i64 tourI.metric, .int .i64 tourI.scale, .int .i64 tourI.cap, .int .i64 tourI.fleet, .slice an tourI.nodes.length cn, .slice none 0 0] 25) = V1 at *
  generalize w1.heap.size = bx at *
  clear hV
  have p0 : V1.cell? ⟨bx, 0, none⟩ = some (.string tourI.name) := X1.out.p 0
  have p1 : V1.cell? ⟨bx, 1, none⟩ = some (.int .i64 tourI.kind) := X1.out.p 1
  have p2 : V1.cell? ⟨bx, 2, none⟩ = some (.int .i64 tourI.metric) := X1.out.p 2
  have p3 : V1.cell? ⟨bx, 3, none⟩ = some (.int .i64 tourI.scale) := X1.out.p 3
  have p4 : V1.cell? ⟨bx, 4, none⟩ = some (.int .i64 tourI.cap) := X1.out.p 4
  have p5 : V1.cell? ⟨bx, 5, none⟩ = some (.int .i64 tourI.fleet) := X1.out.p 5
  have p6 : V1.cell? ⟨bx, 6, none⟩ = some (.slice an tourI.nodes.length cn) := X1.out.p 6
  have p7 : V1.cell? ⟨bx, 7, none⟩ = some (.slice none 0 0) := X1.out.p 7
  go_wp2_with (fail)
  (with_reducible refine (HN.out _ _ _ IX.out).mono ?_)
  rintro e w2 ⟨un, um, rfl, hI2, hb2⟩
  have X2 := Lib.hid (X1.out.next hb2)
  have I2 := Lib.hid (IX.out.next hb2)
  have B2 := Lib.hid (B1.out.trans (hb2.mono B1.out.size))
  have M2 := Lib.hid hI2
  obtain ⟨un, dn, rfl, _⟩ := hI2.nodes.dat
  obtain ⟨um, dm, rfl, _⟩ := hI2.matrix.dat
  clear hI2 hb2 X1 IX B1 HN p0 p1 p2 p3 p4 p5 p6 p7
  go_upto_region 3 with (fail)
  have Y3 := Lib.hid (IBox.new w2 tourM (.slice un tourM.nodes.length dn) (.slice um tourM.matrix.length dm))
  have hbb := below_box w2 (.cells #[.string tourM.name, .int .i64 tourM.kind, .int .i64 tourM.metric, .int .i64 tourM.scale, .int .i64 tourM.cap, .int .i64 tourM.fleet, .slice un tourM.nodes.length dn, .slice um tourM.matrix.length dm] 25)
  have X3 := Lib.hid (X2.out.next hbb)
  have I3 := Lib.hid (I2.out.next hbb)
  have M3 := Lib.hid (M2.out.next hbb)
  have B3 := Lib.hid (B2.out.trans (hbb.mono B2.out.size))
  clear hbb X2 I2 M2 B2
  generalize hV : w2.alloc (.cells #[.string tourM.name, .int .i64 tourM.kind, .int .i64 tourM.metric, .int .i64 tourM.scale, .int .i64 tourM.cap, .int .i64 tourM.fleet, .slice un tourM.nodes.length dn, .slice um tourM.matrix.length dm] 25) = V3 at *
  generalize w2.heap.size = bq at *
  clear hV
  go_wp2_with (fail)
  refine (HC.out _).mono ?_
  rintro e w4 ⟨v4, rfl, hr, hb4⟩
  have hf := fts_of_owns hr
  rcases hf with ⟨h0, _⟩ | ⟨fb, fo, fc, rfl, hfl, hfm, hfd⟩
  · cases h0
  have X4 := Lib.hid (X3.out.next hb4)
  have Y4 := Lib.hid (Y3.out.next hb4)
  have I4 := Lib.hid (I3.out.next hb4)
  have M4 := Lib.hid (M3.out.next hb4)
  have B4 := Lib.hid (B3.out.trans (hb4.mono B3.out.size))
  have F4 := Lib.hid hfd
  clear hr hb4 hfd X3 Y3 I3 M3 B3 HC
  have p0 : w4.cell? ⟨bx, 0, none⟩ = some (.string tourI.name) := X4.out.p 0
  have p1 : w4.cell? ⟨bx, 1, none⟩ = some (.int .i64 tourI.kind) := X4.out.p 1
  have p2 : w4.cell? ⟨bx, 2, none⟩ = some (.int .i64 tourI.metric) := X4.out.p 2
  have p3 : w4.cell? ⟨bx, 3, none⟩ = some (.int .i64 tourI.scale) := X4.out.p 3
  have p4 : w4.cell? ⟨bx, 4, none⟩ = some (.int .i64 tourI.cap) := X4.out.p 4
  have p5 : w4.cell? ⟨bx, 5, none⟩ = some (.int .i64 tourI.fleet) := X4.out.p 5
  have p6 : w4.cell? ⟨bx, 6, none⟩ = some (.slice an tourI.nodes.length cn) := X4.out.p 6
  have p7 : w4.cell? ⟨bx, 7, none⟩ = some (.slice none 0 0) := X4.out.p 7
  go_wp2_with (fail)
  (with_reducible refine (HW.out _ _ _ I4.out).mono ?_)
  rintro e w5 ⟨rfl, hb5⟩
  clear p0 p1 p2 p3 p4 p5 p6 p7
  have X5 := Lib.hid (X4.out.next hb5)
  have Y5 := Lib.hid (Y4.out.next hb5)
  have I5 := Lib.hid (I4.out.next hb5)
  have M5 := Lib.hid (M4.out.next hb5)
  have B5 := Lib.hid (B4.out.trans (hb5.mono B4.out.size))
  have F5 := Lib.hid (F4.out.next hb5)
  clear hb5 X4 Y4 I4 M4 B4 F4 HW
  have p0 : w5.cell? ⟨bx, 0, none⟩ = some (.string tourI.name) := X5.out.p 0
  have p1 : w5.cell? ⟨bx, 1, none⟩ = some (.int .i64 tourI.kind) := X5.out.p 1
  have p2 : w5.cell? ⟨bx, 2, none⟩ = some (.int .i64 tourI.metric) := X5.out.p 2
  have p3 : w5.cell? ⟨bx, 3, none⟩ = some (.int .i64 tourI.scale) := X5.out.p 3
  have p4 : w5.cell? ⟨bx, 4, none⟩ = some (.int .i64 tourI.cap) := X5.out.p 4
  have p5 : w5.cell? ⟨bx, 5, none⟩ = some (.int .i64 tourI.fleet) := X5.out.p 5
  have p6 : w5.cell? ⟨bx, 6, none⟩ = some (.slice an tourI.nodes.length cn) := X5.out.p 6
  have p7 : w5.cell? ⟨bx, 7, none⟩ = some (.slice none 0 0) := X5.out.p 7
  have q0 : w5.cell? ⟨bq, 0, none⟩ = some (.string tourM.name) := Y5.out.p 0
  have q1 : w5.cell? ⟨bq, 1, none⟩ = some (.int .i64 tourM.kind) := Y5.out.p 1
  have q2 : w5.cell? ⟨bq, 2, none⟩ = some (.int .i64 tourM.metric) := Y5.out.p 2
  have q3 : w5.cell? ⟨bq, 3, none⟩ = some (.int .i64 0) := Y5.out.p 3
  have q4 : w5.cell? ⟨bq, 4, none⟩ = some (.int .i64 tourM.cap) := Y5.out.p 4
  have q5 : w5.cell? ⟨bq, 5, none⟩ = some (.int .i64 tourM.fleet) := Y5.out.p 5
  have q6 : w5.cell? ⟨bq, 6, none⟩ = some (.slice un 3 dn) := Y5.out.p 6
  have q7 : w5.cell? ⟨bq, 7, none⟩ = some (.slice um 0 dm) := Y5.out.p 7
  have n4 : ∃ g go, un = some ⟨g, go, none⟩ ∧ w5.cell? ⟨g, go + 2 * 7 + 1, none⟩ = some (.int .i64 4) := by
    rcases M5.out.nodes with ⟨h0, _⟩ | ⟨g, go, gc, e, _, _, hd⟩
    · cases h0
    · injection e with e1 e2 e3
      exact ⟨g, go, e1, (hd.2 2 ⟨3, 4, 0, 0, 0, 0, 0⟩ rfl).y⟩
  obtain ⟨g, go, rfl, n4⟩ := n4
  go_wp2_with (fail)
  refine (HS.out _ _ _ _ _ I5.out M5.out).mono ?_
  rintro e w6 ⟨rfl, hb6⟩
  have F6 := F5.out.next hb6
  have B6 := Lib.hid (B5.out.trans (hb6.mono B5.out.size))
  have a0 : w6.cell? ⟨fb, fo, none⟩ = some (.int .i64 1) := (F6.2 0 (1, 0) rfl).1
  have a1 : w6.cell? ⟨fb, fo + 1, none⟩ = some (.int .i64 0) := (F6.2 0 (1, 0) rfl).2
  have a2 : w6.cell? ⟨fb, fo + 4, none⟩ = some (.int .i64 5) := (F6.2 2 (5, 0) rfl).1
  have a4 : w6.cell? ⟨fb, fo + 6, none⟩ = some (.int .i64 7) := (F6.2 3 (7, 0) rfl).1
  clear p0 p1 p2 p3 p4 p5 p6 p7 q0 q1 q2 q3 q4 q5 q6 q7 n4 hb6 F6 B5 F5 M5 I5 Y5 X5 HS
  go_wp2
  go_ret
  exact ⟨rfl, B6.out⟩
end Go.Proofs
