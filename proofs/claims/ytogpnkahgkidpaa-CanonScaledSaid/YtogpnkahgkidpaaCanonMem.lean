/- Slices of nodes and of faults, and instances as values: what they hold; the small functions of the document's own answers: number, signed. Conditions: none. -/
import Derived.Test.YtogpnkahgkidpaaCanonMore
import Derived.Shelf.Abstract
import Derived.Shelf.RegionOpen
import Derived.WalkKit
import Derived.LoopNIn
import Derived.LoopIn
import Derived.Lib.OthersKept
import Derived.Lib.Hide
import Derived.Laws.AppendOwn
import Derived.Laws.OwnMore
import Derived.Lib.QuietBelow
import Derived.RangeFuncRecord
import Derived.Deep.QuietTactic
import Derived.BigQuiet
import Derived.Test.YtogpnkahgkidpaaProg
namespace Go.Proofs
open Go.RowKit Go.Shelf Go.Canon
attribute [local go_sem] Oper.semAt_some

theorem cret_is {a b : Bool} (h : a = b) : Ending.returned (.bool a) = .returned (.bool b) := by rw [h]
/-- The seven cells of each node, from an address on. -/
structure NdAt (W : World) (b o : Nat) (d : Nd) : Prop where
  x : W.cell? ⟨b, o, none⟩ = some (.int .i64 d.x)
  y : W.cell? ⟨b, o + 1, none⟩ = some (.int .i64 d.y)
  demand : W.cell? ⟨b, o + 2, none⟩ = some (.int .i64 d.demand)
  ready : W.cell? ⟨b, o + 3, none⟩ = some (.int .i64 d.ready)
  due : W.cell? ⟨b, o + 4, none⟩ = some (.int .i64 d.due)
  service : W.cell? ⟨b, o + 5, none⟩ = some (.int .i64 d.service)
  mate : W.cell? ⟨b, o + 6, none⟩ = some (.int .i64 d.mate)
theorem NdAt.below {B b o : Nat} {W W' : World} {d : Nd} (h : NdAt W b o d) (hb : Below B W W') (hlt : b < B) : NdAt W' b o d :=
  ⟨(hb.cell (p := ⟨b, o, none⟩) hlt).trans h.x, (hb.cell (p := ⟨b, o + 1, none⟩) hlt).trans h.y, (hb.cell (p := ⟨b, o + 2, none⟩) hlt).trans h.demand, (hb.cell (p := ⟨b, o + 3, none⟩) hlt).trans h.ready, (hb.cell (p := ⟨b, o + 4, none⟩) hlt).trans h.due, (hb.cell (p := ⟨b, o + 5, none⟩) hlt).trans h.service, (hb.cell (p := ⟨b, o + 6, none⟩) hlt).trans h.mate⟩
def NodesAt (W : World) (b off : Nat) (l : List Nd) : Prop := b < W.heap.size ∧ ∀ i d, l[i]? = some d → NdAt W b (off + i * 7) d
/-- A slice that reads as these nodes. -/
def HasNodes (W : World) (v : Value) (l : List Nd) : Prop := (l = [] ∧ ∃ ao cap, v = .slice ao 0 cap) ∨ ∃ b off cap, v = .slice (some ⟨b, off, none⟩) l.length cap ∧ l.length ≤ cap ∧ cap ≤ maxLen ∧ NodesAt W b off l
theorem NodesAt.below {B b off : Nat} {W W' : World} {l : List Nd} (h : NodesAt W b off l) (hb : Below B W W') (hlt : b < B) : NodesAt W' b off l :=
  ⟨Nat.lt_of_lt_of_le h.1 hb.size, fun i d hi => (h.2 i d hi).below hb hlt⟩
theorem NodesAt.next {b off : Nat} {W W' : World} {l : List Nd} (h : NodesAt W b off l) (hb : Below W.heap.size W W') : NodesAt W' b off l := h.below hb h.1
theorem HasNodes.next {W W' : World} {v : Value} {l : List Nd} (h : HasNodes W v l) (hb : Below W.heap.size W W') : HasNodes W' v l := by
  rcases h with h | ⟨b, off, cap, h1, h2, h3, h4⟩
  · exact .inl h
  · exact .inr ⟨b, off, cap, h1, h2, h3, h4.next hb⟩
theorem HasNodes.dat {W : World} {v : Value} {l : List Nd} (h : HasNodes W v l) : ∃ ao cap, v = .slice ao l.length cap ∧ (l = [] ∨ ∃ b off, ao = some ⟨b, off, none⟩ ∧ NodesAt W b off l) := by
  rcases h with ⟨rfl, ao, cap, rfl⟩ | ⟨b, off, cap, rfl, _, _, hd⟩
  · exact ⟨ao, cap, rfl, .inl rfl⟩
  · exact ⟨_, cap, rfl, .inr ⟨b, off, rfl, hd⟩⟩
/-- The cells of a list's numbers, from an address on. -/
def NumsAt (W : World) (b off : Nat) (l : List Int) : Prop := b < W.heap.size ∧ ∀ i x, l[i]? = some x → W.cell? ⟨b, off + i, none⟩ = some (.int .i64 x)
/-- A slice that reads as these numbers. -/
def HasNums (W : World) (v : Value) (l : List Int) : Prop := (l = [] ∧ ∃ ao cap, v = .slice ao 0 cap) ∨ ∃ b off cap, v = .slice (some ⟨b, off, none⟩) l.length cap ∧ l.length ≤ cap ∧ cap ≤ maxLen ∧ NumsAt W b off l
theorem NumsAt.next {b off : Nat} {W W' : World} {l : List Int} (h : NumsAt W b off l) (hb : Below W.heap.size W W') : NumsAt W' b off l :=
  ⟨Nat.lt_of_lt_of_le h.1 hb.size, fun i x hi => (hb.cell (p := ⟨b, off + i, none⟩) h.1).trans (h.2 i x hi)⟩
theorem HasNums.next {W W' : World} {v : Value} {l : List Int} (h : HasNums W v l) (hb : Below W.heap.size W W') : HasNums W' v l := by
  rcases h with h | ⟨b, off, cap, h1, h2, h3, h4⟩
  · exact .inl h
  · exact .inr ⟨b, off, cap, h1, h2, h3, h4.next hb⟩
theorem HasNums.dat {W : World} {v : Value} {l : List Int} (h : HasNums W v l) : ∃ ao cap, v = .slice ao l.length cap ∧ (l = [] ∨ ∃ b off, ao = some ⟨b, off, none⟩ ∧ NumsAt W b off l) := by
  rcases h with ⟨rfl, ao, cap, rfl⟩ | ⟨b, off, cap, rfl, _, _, hd⟩
  · exact ⟨ao, cap, rfl, .inl rfl⟩
  · exact ⟨_, cap, rfl, .inr ⟨b, off, rfl, hd⟩⟩
/-- An instance as a value. -/
def insV (x : Ins) (vn vm : Value) : Value := .agg #[.string x.name, .int .i64 x.kind, .int .i64 x.metric, .int .i64 x.scale, .int .i64 x.cap, .int .i64 x.fleet, vn, vm]
/-- A value that reads as an instance. -/
structure HasIns (W : World) (vn vm : Value) (x : Ins) : Prop where
  nodes : HasNodes W vn x.nodes
  matrix : HasNums W vm x.matrix
theorem HasIns.next {W W' : World} {vn vm : Value} {x : Ins} (h : HasIns W vn vm x) (hb : Below W.heap.size W W') : HasIns W' vn vm x := ⟨h.nodes.next hb, h.matrix.next hb⟩

theorem Try.rnumber_calls (n : Int) (w : World) :
    Calls Try.prog 50 #[.int .i64 n] w fun e w' => e = .returned (.bool (number n)) ∧ w' = w := by
  by_cases h1 : 0 ≤ n
  · by_cases h2 : n ≤ 100000000
    · go_enter Try.func50, Try.ntmps50
      go_wp2
      go_ret
      exact ⟨cret_is (by simp [number]; omega), rfl⟩
    · go_enter Try.func50, Try.ntmps50
      go_wp2
      go_ret
      exact ⟨cret_is (by simp [number]; omega), rfl⟩
  · go_enter Try.func50, Try.ntmps50
    go_wp2
    go_ret
    exact ⟨cret_is (by simp [number]; omega), rfl⟩
theorem Try.rsigned_calls (n : Int) (w : World) :
    Calls Try.prog 51 #[.int .i64 n] w fun e w' => e = .returned (.bool (signed n)) ∧ w' = w := by
  by_cases h1 : -100000000 ≤ n
  · by_cases h2 : n ≤ 100000000
    · go_enter Try.func51, Try.ntmps51
      go_wp2
      go_ret
      exact ⟨cret_is (by simp [signed]; omega), rfl⟩
    · go_enter Try.func51, Try.ntmps51
      go_wp2
      go_ret
      exact ⟨cret_is (by simp [signed]; omega), rfl⟩
  · go_enter Try.func51, Try.ntmps51
    go_wp2
    go_ret
    exact ⟨cret_is (by simp [signed]; omega), rfl⟩
end Go.Proofs
