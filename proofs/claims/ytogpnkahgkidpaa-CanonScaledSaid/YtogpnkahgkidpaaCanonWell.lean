/- The document's own Well. Conditions: a name of 100 bytes at most. -/
import Derived.Test.YtogpnkahgkidpaaCanonCheck
namespace Go.Proofs
open Go.RowKit Go.Shelf Go.Canon
attribute [local go_sem] Oper.semAt_some

theorem owns_dat {W : World} {base : Nat} {e : TypeId} {size : Nat} {v : Value} {n : Nat} {xs : List Value} (h : W.ownsRow base e size v n xs) : ∃ ao c, v = .slice ao n c := by
  rcases h.2 with ⟨rfl, rfl⟩ | ⟨g, cap, cur, rfl, _⟩
  · exact ⟨_, _, rfl⟩
  · exact ⟨_, _, rfl⟩
theorem well_len (N : ByteArray → Bool) (x : Ins) : wellB N x = decide ((checkL N x).length = 0) := by
  unfold wellB
  rw [decide_eq_decide]; exact List.length_eq_zero_iff.symm
set_option maxRecDepth 100000 in
theorem Try.rwell_calls (NB : ByteArray → Bool) (hNB : ∀ (s : ByteArray) (W : World), s.size ≤ 100 → Calls Try.prog 28 #[.string s] W fun e w' => e = .returned (.bool (NB s)) ∧ Below W.heap.size W w')
    (hKB : ∀ (m : Int) (W : World), Calls Try.prog 29 #[.int .i64 m] W fun e w' => e = .returned (.bool (metricB m)) ∧ Below W.heap.size W w')
    (x : Ins) (vn vm : Value) (w : World) (hx : HasIns w vn vm x) (hs : x.name.size ≤ 100) :
    Calls Try.prog 21 #[insV x vn vm] w fun e w' => e = .returned (.bool (wellB NB x)) ∧ Below w.heap.size w w' := by
  have HC : Hid (∀ W, HasIns W vn vm x → Calls Try.prog 14 #[.agg #[.string x.name, .int .i64 x.kind, .int .i64 x.metric, .int .i64 x.scale, .int .i64 x.cap, .int .i64 x.fleet, vn, vm]] W fun e w' => ∃ v', e = .returned v' ∧ w'.ownsRow (W.heap.size + 1) 55 2 v' (checkL NB x).length ((checkL NB x).flatMap ftC) ∧ Below W.heap.size W w') := fun W h => Try.rcheck_calls NB hNB hKB x vn vm W h hs
  rw [well_len]
  have HX := Lib.hid hx
  obtain ⟨an, cn, rfl, _⟩ := hx.nodes.dat
  obtain ⟨am, cm, rfl, _⟩ := hx.matrix.dat
  unfold insV
  clear hx hNB hKB
  generalize (checkL NB x).length = n at HC ⊢
  generalize x.nodes.length = L at *
  generalize x.matrix.length = M at *
  go_enter Try.func21, Try.ntmps21
  go_wp2_with (go_at_call 14; (with_reducible refine (HC.out _ (HX.out.next (below_box _ _))).mono ?_); rintro e w1 ⟨v', rfl, hr, hb1⟩; obtain ⟨ao, c, rfl⟩ := owns_dat hr)
  go_ret
  exact ⟨cret_is (nat_beq (b := 0) _ rfl), (below_box _ _).trans (hb1.mono (below_box _ _).size)⟩
end Go.Proofs
