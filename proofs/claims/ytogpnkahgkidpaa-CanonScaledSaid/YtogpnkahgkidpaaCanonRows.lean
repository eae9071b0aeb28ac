/- Rows of structs of a call's own: what they read as (faults, nodes). No program's functions. -/
import Derived.Test.YtogpnkahgkidpaaCanonMem
import Derived.Laws.MakeOwn
namespace Go.Proofs
open Go.RowKit Go.Shelf Go.Canon
attribute [local go_sem] Oper.semAt_some

/-! Lists of structs, laid out flat. -/
theorem flat_len {α : Type} {f : α → List Value} {s : Nat} (hf : ∀ a, (f a).length = s) (l : List α) : (l.flatMap f).length = l.length * s := by
  induction l with
  | nil => simp
  | cons a l ih => rw [List.flatMap_cons, List.length_append, ih, hf, List.length_cons, Nat.succ_mul]; omega
theorem flat_get {α : Type} {f : α → List Value} {s : Nat} (hf : ∀ a, (f a).length = s) : ∀ {l : List α} {i : Nat} {a : α} {j : Nat}, l[i]? = some a → j < s → (l.flatMap f)[i * s + j]? = (f a)[j]?
  | [], i, a, j, h, _ => by simp at h
  | b :: l, 0, a, j, h, hj => by
    have e : b = a := by simpa using h
    subst e
    rw [List.flatMap_cons, Nat.zero_mul, Nat.zero_add, List.getElem?_append_left (by rw [hf]; exact hj)]
  | b :: l, i + 1, a, j, h, hj => by
    have h' : l[i]? = some a := by simpa using h
    have := flat_get hf h' hj
    rw [List.flatMap_cons, Nat.succ_mul, List.getElem?_append_right (by rw [hf]; omega), hf, ← this]
    congr 1; omega
theorem flat_snoc {α : Type} (f : α → List Value) (l : List α) (a : α) : (l ++ [a]).flatMap f = l.flatMap f ++ f a := by simp [List.flatMap_append]
theorem ctake_get {α : Type} {l : List α} {k : Nat} {a : α} (h : l[k]? = some a) : l.take (k + 1) = l.take k ++ [a] := by rw [List.take_add_one, h]; rfl
/-- What a cell of an own row reads as. -/
theorem owns_flat {α : Type} {W : World} {base s : Nat} {e : TypeId} {v : Value} {f : α → List Value} {l : List α} (hf : ∀ a, (f a).length = s) (h : W.ownsRow base e s v l.length (l.flatMap f)) :
    (l = [] ∧ v = .slice none 0 0) ∨ ∃ g cap, v = .slice (some ⟨g, 0, none⟩) l.length cap ∧ l.length ≤ cap ∧ cap ≤ maxLen ∧ g < W.heap.size ∧ ∀ i a j u, l[i]? = some a → (f a)[j]? = some u → W.cell? ⟨g, 0 + i * s + j, none⟩ = some u := by
  rcases h.2 with ⟨rfl, h0⟩ | ⟨g, cap, cur, rfl, _, hg, hnc, hcm, hcs, htk⟩
  · exact .inl ⟨List.length_eq_zero_iff.1 h0, rfl⟩
  · refine .inr ⟨g, cap, rfl, hnc, hcm, (Array.getElem?_eq_some_iff.1 hg).1, fun i a j u hi hu => ?_⟩
    have hlt : i < l.length := (List.getElem?_eq_some_iff.1 hi).1
    have hj : j < s := by rw [← hf a]; exact (List.getElem?_eq_some_iff.1 hu).1
    have h1 := flat_get hf hi hj
    rw [hu, ← htk, List.getElem?_take, if_pos (by have := Nat.mul_le_mul_right s (show i + 1 ≤ l.length by omega); rw [Nat.succ_mul] at this; omega)] at h1
    unfold World.cell?
    simp only [hg, Nat.zero_add]
    simpa using h1
theorem cowns_empty (w : World) (e : TypeId) (s : Nat) : (w.alloc (.cells #[] e)).ownsRow w.heap.size e s (.slice (some ⟨w.heap.size, 0, none⟩) 0 0) 0 [] :=
  ⟨by simp, .inr ⟨w.heap.size, 0, #[], rfl, Nat.le_refl _, World.alloc_heap_new w _, Nat.le_refl _, Nat.zero_le _, by simp, by simp⟩⟩
theorem cgrown_below {n₀ : Nat} {w wr w1 : World} {tmp : Obj} {v : Value} {e : TypeId} {size k : Nat} {xs : List Value} (hB : Below n₀ w wr) (hn : n₀ ≤ wr.heap.size) (hown : wr.ownsRow n₀ e size v k xs) (hgrow : (wr.alloc tmp).grownBy w1 v.ownBlock) : Below n₀ w w1 := by
  refine (hB.alloc hn tmp).grown hgrow (by simp; omega) ?_
  intro k hk
  rcases hown.2 with ⟨rfl, _⟩ | ⟨g, cap, cur, rfl, hbg, _⟩
  · simp [Value.ownBlock] at hk
  · have : g = k := by simpa [Value.ownBlock] using hk
    omega
/-! Faults. -/
def ftC (p : Nat × Nat) : List Value := [.int .i64 (p.1 : Int), .int .i64 (p.2 : Int)]
def ndC (d : Nd) : List Value := [.int .i64 d.x, .int .i64 d.y, .int .i64 d.demand, .int .i64 d.ready, .int .i64 d.due, .int .i64 d.service, .int .i64 d.mate]
def FtAt (W : World) (b off : Nat) (l : List (Nat × Nat)) : Prop := b < W.heap.size ∧ ∀ i p, l[i]? = some p → W.cell? ⟨b, off + i * 2, none⟩ = some (.int .i64 (p.1 : Int)) ∧ W.cell? ⟨b, off + i * 2 + 1, none⟩ = some (.int .i64 (p.2 : Int))
/-- A slice that reads as these faults. -/
def HasFts (W : World) (v : Value) (l : List (Nat × Nat)) : Prop := (l = [] ∧ ∃ ao cap, v = .slice ao 0 cap) ∨ ∃ b off cap, v = .slice (some ⟨b, off, none⟩) l.length cap ∧ l.length ≤ cap ∧ cap ≤ maxLen ∧ FtAt W b off l
theorem FtAt.next {b off : Nat} {W W' : World} {l : List (Nat × Nat)} (h : FtAt W b off l) (hb : Below W.heap.size W W') : FtAt W' b off l :=
  ⟨Nat.lt_of_lt_of_le h.1 hb.size, fun i p hi => ⟨(hb.cell (p := ⟨b, off + i * 2, none⟩) h.1).trans (h.2 i p hi).1, (hb.cell (p := ⟨b, off + i * 2 + 1, none⟩) h.1).trans (h.2 i p hi).2⟩⟩
theorem HasFts.next {W W' : World} {v : Value} {l : List (Nat × Nat)} (h : HasFts W v l) (hb : Below W.heap.size W W') : HasFts W' v l := by
  rcases h with h | ⟨b, off, cap, h1, h2, h3, h4⟩
  · exact .inl h
  · exact .inr ⟨b, off, cap, h1, h2, h3, h4.next hb⟩
theorem HasFts.dat {W : World} {v : Value} {l : List (Nat × Nat)} (h : HasFts W v l) : ∃ ao cap, v = .slice ao l.length cap ∧ (l = [] ∨ ∃ b off, ao = some ⟨b, off, none⟩ ∧ FtAt W b off l) := by
  rcases h with ⟨rfl, ao, cap, rfl⟩ | ⟨b, off, cap, rfl, _, _, hd⟩
  · exact ⟨ao, cap, rfl, .inl rfl⟩
  · exact ⟨_, cap, rfl, .inr ⟨b, off, rfl, hd⟩⟩
theorem fts_of_owns {W : World} {base : Nat} {e : TypeId} {v : Value} {l : List (Nat × Nat)} (h : W.ownsRow base e 2 v l.length (l.flatMap ftC)) : HasFts W v l := by
  rcases owns_flat (f := ftC) (s := 2) (fun _ => rfl) h with ⟨rfl, rfl⟩ | ⟨g, cap, rfl, h1, h2, h3, h4⟩
  · exact .inl ⟨rfl, none, 0, rfl⟩
  · exact .inr ⟨g, 0, cap, rfl, h1, h2, h3, fun i p hi => ⟨h4 i p 0 _ hi rfl, h4 i p 1 _ hi rfl⟩⟩
theorem nodes_of_owns {W : World} {base : Nat} {e : TypeId} {v : Value} {l : List Nd} (h : W.ownsRow base e 7 v l.length (l.flatMap ndC)) : HasNodes W v l := by
  rcases owns_flat (f := ndC) (s := 7) (fun _ => rfl) h with ⟨rfl, rfl⟩ | ⟨g, cap, rfl, h1, h2, h3, h4⟩
  · exact .inl ⟨rfl, none, 0, rfl⟩
  · exact .inr ⟨g, 0, cap, rfl, h1, h2, h3, fun i d hi => ⟨h4 i d 0 _ hi rfl, h4 i d 1 _ hi rfl, h4 i d 2 _ hi rfl, h4 i d 3 _ hi rfl, h4 i d 4 _ hi rfl, h4 i d 5 _ hi rfl, h4 i d 6 _ hi rfl⟩⟩
theorem map_flat (l : List Int) : (l.map fun x => Value.int .i64 x) = l.flatMap fun x => [Value.int .i64 x] := by induction l <;> simp_all
theorem nums_of_owns {W : World} {base : Nat} {e : TypeId} {v : Value} {l : List Int} (h : W.ownsRow base e 1 v l.length (l.map fun x => .int .i64 x)) : HasNums W v l := by
  rw [map_flat] at h
  rcases owns_flat (f := fun x : Int => [Value.int .i64 x]) (s := 1) (fun _ => rfl) h with ⟨rfl, rfl⟩ | ⟨g, cap, rfl, h1, h2, h3, h4⟩
  · exact .inl ⟨rfl, none, 0, rfl⟩
  · exact .inr ⟨g, 0, cap, rfl, h1, h2, h3, fun i x hi => by have := h4 i x 0 _ hi rfl; simpa using this⟩
end Go.Proofs
