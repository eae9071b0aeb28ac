/- The law's long, tour. Conditions: none. -/
import Derived.Test.YtogpnkahgkidpaaCanonSame
namespace Go.Proofs
open Go.RowKit Go.Shelf Go.Canon
attribute [local go_sem] Oper.semAt_some

def longB (x : Ins) : Bool := decide (420 < x.nodes.length) || decide (1000 < x.matrix.length) || decide (100 < x.name.size)
set_option maxRecDepth 100000 in
theorem Try.llong_calls (x : Ins) (vn vm : Value) (w : World) (hx : HasIns w vn vm x) :
    Calls Try.prog 9 #[insV x vn vm] w fun e w' => e = .returned (.bool (longB x)) ∧ Below w.heap.size w w' := by
  obtain ⟨an, cn, rfl, _⟩ := hx.nodes.dat
  obtain ⟨am, cm, rfl, _⟩ := hx.matrix.dat
  unfold insV longB
  clear hx
  generalize x.nodes.length = L
  generalize x.matrix.length = M
  by_cases h1 : 420 < L
  · have k1 : (420 : Int) < (L : Int) := by omega
    have e : decide (420 < L) = true := decide_eq_true h1
    rw [e]
    clear h1 e
    go_enter Try.func9, Try.ntmps9
    go_wp2
    go_ret
    exact ⟨rfl, below_box _ _⟩
  · have k1 : ¬ (420 : Int) < (L : Int) := by omega
    have e : decide (420 < L) = false := decide_eq_false h1
    rw [e]
    clear h1 e
    by_cases h2 : 1000 < M
    · have k2 : (1000 : Int) < (M : Int) := by omega
      have e : decide (1000 < M) = true := decide_eq_true h2
      rw [e]
      clear h2 e
      go_enter Try.func9, Try.ntmps9
      go_wp2
      go_ret
      exact ⟨rfl, below_box _ _⟩
    · have k2 : ¬ (1000 : Int) < (M : Int) := by omega
      have e : decide (1000 < M) = false := decide_eq_false h2
      rw [e]
      clear h2 e
      by_cases h3 : 100 < x.name.size
      · have k3 : (100 : Int) < (x.name.size : Int) := by omega
        have e : decide (100 < x.name.size) = true := decide_eq_true h3
        rw [e]
        clear h3 e
        go_enter Try.func9, Try.ntmps9
        go_wp2
        go_ret
        exact ⟨rfl, below_box _ _⟩
      · have k3 : ¬ (100 : Int) < (x.name.size : Int) := by omega
        have e : decide (100 < x.name.size) = false := decide_eq_false h3
        rw [e]
        clear h3 e
        go_enter Try.func9, Try.ntmps9
        go_wp2
        go_ret
        exact ⟨rfl, below_box _ _⟩
/-- tour's nodes. -/
def tourN : List Nd := [⟨10, 0, 0, 0, 0, 0, 0⟩, ⟨0, 20, 0, 0, 0, 0, 0⟩, ⟨30, 40, 0, 0, 0, 0, 0⟩]
def tourI : Ins := ⟨⟨#[116]⟩, 1, 1, 1, 0, 0, tourN, []⟩
set_option maxRecDepth 100000 in
theorem Try.ltour_calls (w : World) :
    Calls Try.prog 22 #[] w fun e w' => ∃ vn, e = .returned (insV tourI vn (.slice none 0 0)) ∧ HasIns w' vn (.slice none 0 0) tourI ∧ Below w.heap.size w w' := by
  go_enter Try.func22, Try.ntmps22
  go_wp2
  refine bodyPost_ret (v := insV tourI (.slice (some ⟨w.heap.size + 1, 0, none⟩) 3 3) (.slice none 0 0)) (by simp [results, Try.results22, go_sem, insV, tourI]) rfl ⟨_, rfl, ⟨.inr ⟨_, 0, 3, rfl, by decide, by decide, by simp, fun i d hd => ?_⟩, .inl ⟨rfl, _, _, rfl⟩⟩, below_two _ _ _⟩
  rcases i with _ | _ | _ | i
  · obtain rfl : _ = d := Option.some.inj hd
    exact ⟨cell_new' _ _ _ _ _, cell_new' _ _ _ _ _, cell_new' _ _ _ _ _, cell_new' _ _ _ _ _, cell_new' _ _ _ _ _, cell_new' _ _ _ _ _, cell_new' _ _ _ _ _⟩
  · obtain rfl : _ = d := Option.some.inj hd
    exact ⟨cell_new' _ _ _ _ _, cell_new' _ _ _ _ _, cell_new' _ _ _ _ _, cell_new' _ _ _ _ _, cell_new' _ _ _ _ _, cell_new' _ _ _ _ _, cell_new' _ _ _ _ _⟩
  · obtain rfl : _ = d := Option.some.inj hd
    exact ⟨cell_new' _ _ _ _ _, cell_new' _ _ _ _ _, cell_new' _ _ _ _ _, cell_new' _ _ _ _ _, cell_new' _ _ _ _ _, cell_new' _ _ _ _ _, cell_new' _ _ _ _ _⟩
  · simp [tourI, tourN] at hd
end Go.Proofs
