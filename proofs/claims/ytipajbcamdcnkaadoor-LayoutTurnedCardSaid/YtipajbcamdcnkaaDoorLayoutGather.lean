/- layout.gather of this program: the numbers of a matrix that stand at a layout's steps. Conditions: a layout of 1 to 7, 1 to 400 rows, a matrix of as many numbers as there should be. -/
import Derived.Test.YtipajbcamdcnkaaDoorLayoutPlaces
import Derived.Test.YtipajbcamdcnkaaDoorHeld
import Derived.Test.YtipajbcamdcnkaaDoorLayoutPack
import Derived.Deep.RegionHeld
import Derived.Deep.AppendLies
import Derived.IntWalk
namespace Go.Layout
def gathUpto (k n : Nat) (m : List Int) (t : Nat) : List Int := ((steps k n).take t).map fun p => cell m n p.1 p.2
theorem gathUpto_zero (k n : Nat) (m : List Int) : gathUpto k n m 0 = [] := by simp [gathUpto]
theorem gathUpto_all (k n : Nat) (m : List Int) : gathUpto k n m (steps k n).length = gath k n m := by simp [gathUpto, gath]
theorem gathUpto_next {k n t a b : Nat} {m : List Int} (h : (steps k n)[t]? = some (a, b)) : gathUpto k n m (t + 1) = gathUpto k n m t ++ [cell m n a b] := by
  unfold gathUpto; rw [List.take_add_one, h]; simp
theorem gathUpto_length {k n t : Nat} {m : List Int} (h : t ≤ (steps k n).length) : (gathUpto k n m t).length = t := by simp [gathUpto]; omega
end Go.Layout
namespace Go.Proofs
open Go.RowKit Go.Shelf Go.Layout
attribute [local go_sem] Oper.semAt_some

theorem enters39 : ∀ args w, (callFunc 39 args).run Tryd.prog w = .ok (.enter 39 args) w := enters_of Tryd.func39 (by kernel_rfl) rfl
theorem ownsRow_ownR {X Y : World} {base A own B' : Nat} {e : TypeId} {size : Nat} {v : Value} {k : Nat} {xs : List Value} (h2 : X.ownsRow base e size v k xs) (hb : A + own ≤ base) {row : Option Nat} (hg : X.grownBy Y row)
    (hr : ∀ r, row = some r → (B' ≤ r ∧ ∃ o : Obj, X.heap[r]? = some o ∧ o.isCells = false) ∨ (A ≤ r ∧ r < A + own)) : Y.ownsRow base e size v k xs := by
  refine h2.kept hg ?_
  rcases h2.2 with ⟨rfl, _⟩ | ⟨g, cap, cur, rfl, hbg, hgb, _⟩
  · exact .inl rfl
  · refine .inr fun e' => ?_
    rcases hr g (by simpa [Value.ownBlock] using e'.symm) with ⟨_, o, ho, hc⟩ | h
    · rw [hgb] at ho; cases ho; cases hc
    · omega
theorem boxed_ownR {X Y : World} {b A own B' : Nat} {t : TypeId} {v : Value} (h : Boxed X b t v) (hb : b < A) {row : Option Nat} (hg : X.grownBy Y row)
    (hr : ∀ r, row = some r → (B' ≤ r ∧ ∃ o : Obj, X.heap[r]? = some o ∧ o.isCells = false) ∨ (A ≤ r ∧ r < A + own)) : Boxed Y b t v :=
  h.kept hg (fun e => by
    rcases hr b e.symm with ⟨_, o, ho, hc⟩ | h'
    · rw [show X.heap[b]? = _ from h] at ho; cases ho; cases hc
    · omega)
theorem below_ownR {w X Y : World} {n₀ A own B' : Nat} (h : Below n₀ w X) (hn : n₀ ≤ w.heap.size) (hA : n₀ ≤ A) (hB : n₀ ≤ B') {row : Option Nat} (hg : X.grownBy Y row)
    (hr : ∀ r, row = some r → (B' ≤ r ∧ ∃ o : Obj, X.heap[r]? = some o ∧ o.isCells = false) ∨ (A ≤ r ∧ r < A + own)) : Below n₀ w Y :=
  h.grown hg (Nat.le_trans hn h.size) (fun k e => by rcases hr k e with h' | h' <;> omega)
/-- An append onto a row that lies behind all that the round keeps. -/
theorem rf_rowGrown {T : Nat → TypeId → Bool} {B base : Nat} {X Y Z : World} {e : TypeId} {size : Nat} {v : Value} {k : Nat} {xs : List Value} (h : RF T B X Y) (hrow : Y.ownsRow base e size v k xs) (hT : ∀ j, base ≤ j → T j e = false) (hg : Y.grownBy Z v.ownBlock) : RF T B X Z := by
  refine h.grown hg fun j ej o ho => ?_
  rcases hrow.2 with ⟨rfl, _⟩ | ⟨g, cap, cur, rfl, hbg, hgb, _⟩
  · simp [Value.ownBlock] at ej
  · obtain rfl : g = j := by simpa [Value.ownBlock] using ej
    rw [hgb] at ho; cases ho; exact ⟨_, _, _, rfl, hT _ hbg⟩
theorem row_far {W : World} {b base : Nat} {e : TypeId} {size : Nat} {v : Value} {k : Nat} {xs : List Value} (hrow : W.ownsRow base e size v k xs) (hb : b < base) : some b ≠ v.ownBlock := by
  rcases hrow.2 with ⟨rfl, _⟩ | ⟨g, cap, cur, rfl, hbg, _⟩
  · simp [Value.ownBlock]
  · intro e'
    obtain rfl : b = g := by simpa [Value.ownBlock] using e'
    omega

theorem grown_below {n₀ base : Nat} {w W w1 : World} {v : Value} {e : TypeId} {size k : Nat} {xs : List Value} (hB : Below n₀ w W) (hn : n₀ ≤ W.heap.size) (hb : n₀ ≤ base) (hown : W.ownsRow base e size v k xs) (hgrow : W.grownBy w1 v.ownBlock) : Below n₀ w w1 := by
  refine hB.grown hgrow hn ?_
  intro k hk
  rcases hown.2 with ⟨rfl, _⟩ | ⟨g, cap, cur, rfl, hbg, _⟩
  · simp [Value.ownBlock] at hk
  · have : g = k := by simpa [Value.ownBlock] using hk
    omega

set_option maxRecDepth 100000 in
set_option maxHeartbeats 2000000 in
theorem Tryd.gather_calls (k n b0 off cap : Nat) (m : List Int) (w : World) (hk : 1 ≤ k) (hk7 : k ≤ 7) (hn4 : n ≤ 400) (hm : m.length = n * n) (hd : IntAt w b0 off m) :
    Calls Tryd.prog 32 #[.int .i64 (k : Int), .int .i64 (n : Int), .slice (some ⟨b0, off, none⟩) m.length cap] w fun e w' => ∃ v, e = .returned v ∧ HasInts w' v (gath k n m) ∧ Below w.heap.size w w' := by
  obtain ⟨i0, hi, hz0, hz1, hz2⟩ := info_parts Tryd.info3
  have hmx : Tryd.prog.follows .mixedOrders = true := by kernel_rfl
  have hsl := steps_length k n
  have hmost := rowsUp_most (k := k) hn4 (Nat.le_refl n)
  obtain ⟨M, hM⟩ : ∃ M, m.length = M := ⟨_, rfl⟩
  rw [hM] at hm ⊢
  have HM := Lib.hid hM
  have HMN := Lib.hid hm
  clear hM hm
  refine (callsIn_wide (n := 0)).1 (callsIn_of_wp_marks Tryd.func32 rfl trivial ?_ rfl)
  simp only [Tryd.ntmps32, List.size_toArray, List.length_cons, List.length_nil, Nat.reduceAdd, Nat.reduceSub, Array.replicate_succ, Array.replicate_zero, List.push_toArray, List.append_toArray, List.nil_append, List.cons_append]
  gi_wp2_with (refine ⟨trivial, rfl, ?_⟩; gi_at_call 38; refine (callsIn_wide.2 (Tryd.places_calls _ _ _)).mono ?_; rintro e w' ⟨rfl, rfl⟩)
  obtain ⟨V, hV⟩ : ∃ V, V = ((((w.alloc (Obj.cells #[Value.int IntKind.i64 (n : Int)] 3)).alloc (Obj.cells #[Value.slice (some ⟨b0, off, none⟩) M cap] 28)).alloc (Obj.cells #[Value.slice none 0 0] 28)).alloc (Obj.cells #[Value.int IntKind.i64 (k : Int)] 3)).alloc (Obj.cells #[Value.int IntKind.i64 (n : Int)] 3) := ⟨_, rfl⟩
  have hVs : V.heap.size = w.heap.size + 1 + 1 + 1 + 1 + 1 := by rw [hV]; simp
  have c0 : Boxed V w.heap.size 3 (.int .i64 (n : Int)) := by rw [hV]; exact ((((Boxed.new w 3 _).alloc _).alloc _).alloc _).alloc _
  have c1 : Boxed V (w.heap.size + 1) 28 (.slice (some ⟨b0, off, none⟩) M cap) := by rw [hV]; exact (((Boxed.at 28 _ (by simp)).alloc _).alloc _).alloc _
  have c2 : Boxed V (w.heap.size + 1 + 1) 28 (.slice none 0 0) := by rw [hV]; exact ((Boxed.at 28 _ (by simp)).alloc _).alloc _
  have c3 : Boxed V (w.heap.size + 1 + 1 + 1) 3 (.int .i64 (k : Int)) := by rw [hV]; exact (Boxed.at 3 _ (by simp)).alloc _
  have c4 : Boxed V (w.heap.size + 1 + 1 + 1 + 1) 3 (.int .i64 (n : Int)) := by rw [hV]; exact Boxed.at 3 _ (by simp)
  have hB : Below w.heap.size w V := by rw [hV]; exact (((((Below.refl _ w).alloc (Nat.le_refl _) _).alloc (by simp) _).alloc (by simp; omega) _).alloc (by simp; omega) _).alloc (by simp; omega) _
  rw [← hV]
  clear hV
  refine range_seqO (own := 4) (T := fun _ _ => false) (T' := keepO (fun _ _ => false) (V.heap.size + 2) 4) (gf := 39) (lb := #[.pointer (some ⟨w.heap.size + 1 + 1 + 1, 0, none⟩), .pointer (some ⟨w.heap.size + 1 + 1 + 1 + 1, 0, none⟩)]) rfl enters39
    (Tryd.places1_seq _ (w.heap.size + 1 + 1 + 1) (w.heap.size + 1 + 1 + 1 + 1) k n V hk hk7 hn4 c3 c4) rfl (Below.refl _ _) (fun t x h => by obtain ⟨a, b, rfl, _⟩ := stepsV_get h; rfl)
    (fun t X => ∃ v, Boxed X w.heap.size 3 (.int .i64 (n : Int)) ∧ Boxed X (w.heap.size + 1) 28 (.slice (some ⟨b0, off, none⟩) M cap) ∧ Boxed X (w.heap.size + 1 + 1) 28 v ∧ X.ownsRow (w.heap.size + 11) 3 1 v (gathUpto k n m t).length ((gathUpto k n m t).map intV) ∧ Below w.heap.size w X)
    (fun _ _ => False)
    (fun t X Y row h hg hr => by
      obtain ⟨v, h0, h1, h2, h3, h4⟩ := h
      exact ⟨v, boxed_ownR h0 (by omega) hg hr, boxed_ownR h1 (by omega) hg hr, boxed_ownR h2 (by omega) hg hr, ownsRow_ownR h3 (by omega) hg hr, below_ownR h4 (Nat.le_refl _) (by omega) (by omega) hg hr⟩)
    (fun _ _ _ _ _ h _ _ => h)
    ⟨_, c0, c1, c2, by rw [gathUpto_zero]; exact World.ownsRow_nil V _ 3 1, hB⟩
    (fun x a' _ => a' = { tmps := #[.int .i64 (k : Int), .int .i64 (n : Int), .slice (some ⟨b0, off, none⟩) M cap, undef, .pointer (some ⟨w.heap.size, 0, none⟩), .pointer (some ⟨w.heap.size + 1, 0, none⟩), .slice none 0 0, .pointer (some ⟨w.heap.size + 1 + 1, 0, none⟩), x[0]!, x[1]!, .int .i64 (k : Int), .int .i64 (n : Int), .func (.func 39) #[] #[.pointer (some ⟨w.heap.size + 1 + 1 + 1, 0, none⟩), .pointer (some ⟨w.heap.size + 1 + 1 + 1 + 1, 0, none⟩)], x[0]!, x[1]!, undef, undef, undef, undef, undef, undef, undef, undef, undef, undef, undef, undef], defers := [] })
    (fun _ _ _ _ _ _ h _ _ => h) ?assign ?body ?done ?stop
  case assign =>
    intro l t x W K hx hsz hi hK
    obtain ⟨a, b, rfl, hst, ha, hb⟩ := stepsV_get hx
    clear hx
    gi_wp2
    exact hK _ _ (RF.refl _) hi rfl
  case body =>
    rintro l t x a' X hx hsz ⟨v, d0, d1, d2, hown, hB1⟩ rfl
    obtain ⟨a, b, rfl, hst, ha, hb⟩ := stepsV_get hx
    clear hx
    have ht := (List.getElem?_eq_some_iff.1 hst).1
    have hnext := Lib.hid (gathUpto_next (m := m) hst)
    have hgl : (gathUpto k n m t).length ≤ 160000 := by rw [gathUpto_length (by omega)]; omega
    clear hst ht
    have s1 := step_lt (n := n) ha hb
    rw [← HMN.out] at s1
    obtain ⟨y, hy, ey⟩ := cell_some HM.out s1
    have yw := hd.2 _ y hy
    have y0 := (hB1.cell (p := ⟨b0, off + (a * n + b), none⟩) hd.1).trans yw
    rw [ey] at hnext
    obtain ⟨u, hu⟩ : ∃ u, a * n = u := ⟨_, rfl⟩
    have ux : off + (a * n + b) = off + (u + b) := by rw [hu]
    rw [ux] at y0 yw
    have YW := Lib.hid yw
    have hb0 := hd.1
    clear yw
    rw [hu] at s1
    have hun : u ≤ 160000 := by rw [← hu]; have : a * n ≤ 400 * 400 := Nat.mul_le_mul (by omega) hn4; omega
    have wi : IntKind.i64.wrap ((a : Int) * (n : Int)) = (u : Int) := by rw [← Int.natCast_mul, hu]; exact IntWalk.i64_in _ (by omega)
    have wj : IntKind.i64.wrap ((u : Int) + (b : Int)) = (u : Int) + (b : Int) := IntWalk.i64_in _ (by omega)
    have i0' : (0 : Int) ≤ (u : Int) + (b : Int) := by omega
    have i2 : ((u : Int) + (b : Int)).toNat = u + b := by omega
    clear hy ey hu ux
    obtain ⟨P, hP⟩ : ∃ P, gathUpto k n m t = P := ⟨_, rfl⟩
    rw [hP] at hown hgl hnext
    obtain ⟨hml, hml2⟩ := room_of hgl
    have i1 : (u : Int) + (b : Int) < (M : Int) := by omega
    have f0 := d0.cell
    have f1 := d1.cell
    have f2 := d2.cell
    clear hsl hmost hP
    simp only [List.getElem!_toArray, List.getElem!_cons_zero, List.getElem!_cons_succ]
    gi_wp2
    refine wpIn_region_held_round (fun W' => W'.cell? ⟨w.heap.size + 1, 0, none⟩ = some (.slice (some ⟨b0, off, none⟩) M cap) ∧ W'.cell? ⟨w.heap.size, 0, none⟩ = some (.int .i64 (n : Int)) ∧ W'.cell? ⟨b0, off + (u + b), none⟩ = some (.int .i64 y)) (fun ⟨_, _, h⟩ => h) hmx (by kernel_rfl) ⟨f1, f0, y0⟩ (fun hS => ?_)
    refine wpAnyH_take (i := 1) (v := ?_) rfl (by kernel_rfl) (by kernel_rfl) (by kernel_rfl) (fun _ _ _ h => h) (Or.inl ⟨by rfl, ?_⟩) (by assumption) ?_
    rotate_left
    · (intro w0 hSw; (try dsimp only at hSw); obtain ⟨s1, s2, s3⟩ := hSw; go_simp; try with_reducible rfl)
    try dsimp only [Act.put]
    refine wpAnyH_take (i := 2) (v := ?_) rfl (by kernel_rfl) (by kernel_rfl) (by kernel_rfl) (fun _ _ _ h => h) (Or.inl ⟨by rfl, ?_⟩) (by assumption) ?_
    rotate_left
    · (intro w0 hSw; (try dsimp only at hSw); obtain ⟨s1, s2, s3⟩ := hSw; go_simp; try with_reducible rfl)
    try dsimp only [Act.put]
    refine wpAnyH_take (i := 3) (v := ?_) rfl (by kernel_rfl) (by kernel_rfl) (by kernel_rfl) (fun _ _ _ h => h) (Or.inl ⟨by rfl, ?_⟩) (by assumption) ?_
    rotate_left
    · (intro w0 hSw; (try dsimp only at hSw); obtain ⟨s1, s2, s3⟩ := hSw; go_simp; try with_reducible rfl)
    try dsimp only [Act.put]
    refine wpAnyH_take (i := 4) (v := ?_) rfl (by kernel_rfl) (by kernel_rfl) (by kernel_rfl) (fun _ _ _ h => h) (Or.inl ⟨by rfl, ?_⟩) (by assumption) ?_
    rotate_left
    · (intro w0 hSw; (try dsimp only at hSw); obtain ⟨s1, s2, s3⟩ := hSw; go_simp; try with_reducible rfl)
    try dsimp only [Act.put]
    refine wpAnyH_take (i := 5) (v := ?_) rfl (by kernel_rfl) (by kernel_rfl) (by kernel_rfl) (fun _ _ _ h => h) (Or.inl ⟨by rfl, ?_⟩) (by assumption) ?_
    rotate_left
    · (intro w0 hSw; (try dsimp only at hSw); obtain ⟨s1, s2, s3⟩ := hSw; go_simp; try with_reducible rfl)
    try dsimp only [Act.put]
    refine wpAnyH_take (i := 6) (v := ?_) rfl (by kernel_rfl) (by kernel_rfl) (by kernel_rfl) (fun _ _ _ h => h) (Or.inl ⟨by rfl, ?_⟩) (by assumption) ?_
    rotate_left
    · (intro w0 hSw; (try dsimp only at hSw); obtain ⟨s1, s2, s3⟩ := hSw; go_simp; try with_reducible rfl)
    try dsimp only [Act.put]
    refine wpAnyH_take (i := 7) (v := ?_) rfl (by kernel_rfl) (by kernel_rfl) (by kernel_rfl) (fun _ _ _ h => h) (Or.inl ⟨by rfl, ?_⟩) (by assumption) ?_
    rotate_left
    · (intro w0 hSw; (try dsimp only at hSw); obtain ⟨s1, s2, s3⟩ := hSw; go_simp; try with_reducible rfl)
    try dsimp only [Act.put]
    refine wpAnyH_take (i := 8) (v := ?_) rfl (by kernel_rfl) (by kernel_rfl) (by kernel_rfl) (fun _ _ _ h => h) (Or.inl ⟨by rfl, ?_⟩) (by assumption) ?_
    rotate_left
    · (intro w0 hSw; (try dsimp only at hSw); obtain ⟨s1, s2, s3⟩ := hSw; go_simp; try with_reducible rfl)
    try dsimp only [Act.put]
    obtain ⟨Y, hY⟩ : ∃ Y, Y = X.drew := ⟨_, rfl⟩
    have e0 : Boxed Y w.heap.size 3 (.int .i64 (n : Int)) := by rw [hY]; exact d0.drew
    have e1 : Boxed Y (w.heap.size + 1) 28 (.slice (some ⟨b0, off, none⟩) M cap) := by rw [hY]; exact d1.drew
    have e2 : Boxed Y (w.heap.size + 1 + 1) 28 v := by rw [hY]; exact d2.drew
    have eown : Y.ownsRow (w.heap.size + 11) 3 1 v P.length (P.map intV) := by rw [hY]; exact hown
    have BY : Below w.heap.size w Y := by rw [hY]; exact hB1.drew
    have rf0 : RF (keepO (fun _ _ => false) (V.heap.size + 2) 4) V.heap.size X Y := by rw [hY]; exact (RF.refl X).drew
    have ysz : V.heap.size + 2 + 4 ≤ Y.heap.size := by rw [hY]; exact hsz
    rw [← hY] at hS ⊢
    replace y0 := (BY.cell (p := ⟨b0, off + (u + b), none⟩) hb0).trans YW.out
    have BA := BY.alloc BY.size (.cells #[.int .i64 y] 3)
    have yA := (BA.cell (p := ⟨b0, off + (u + b), none⟩) hb0).trans YW.out
    have ec2 := e2.cell
    have ec2A : (Y.alloc (.cells #[.int .i64 y] 3)).cell? ⟨w.heap.size + 1 + 1, 0, none⟩ = some v := (e2.alloc _).cell
    clear hY d0 d1 d2 hown hB1 f0 f1 f2 wi wj i0' i2 i1
    refine wpAnyH_ready (rs := [0, 9]) (by kernel_rfl) (by simp) (AllReadyH.cons rfl (fun K hK => ?_) (AllReadyH.cons rfl (fun K hK => ?_) AllReadyH.nil))
    · go_simp
      refine hK.out _ _ ⟨e1.cell, e0.cell, y0⟩ (fun hS => ?_)
      clear hK K
      try dsimp only [Act.put]
      refine wpAnyH_ready (rs := [9]) (by kernel_rfl) (by simp) (AllReadyH.cons rfl (fun K hK => ?_) AllReadyH.nil)
      go_simp
      refine hK.out _ _ ⟨(e1.alloc _).cell, (e0.alloc _).cell, yA⟩ (fun hS => ?_)
      clear hK K
      try dsimp only [Act.put]
      refine wpAnyH_ready (rs := [10]) (by kernel_rfl) (by simp) (AllReadyH.cons rfl (fun K hK => ?_) AllReadyH.nil)
      refine step_append_lies _ rfl (.tmp 15) (.tmp 24) 28 rfl (w.heap.size + 11) 3 i0 (.int .i64 0) 1 8 Tryd.underlying28 hi hz0 hz1 hz2 rfl (by decide) v P.length (P.map intV) rfl (eown.alloc _) ⟨Y.heap.size, 0, none⟩ 1 1 [.int .i64 y] rfl rfl (cells_one Y _ _) (by simp [Value.oneCell']) (by decide) hml hml2 (by simp; omega) _ rfl ?_
      intro g cap1 w1 hown' hgrow hat hlt
      have B1 : Below w.heap.size w w1 := grown_below BA (by simp; omega) (by omega) (eown.alloc _) hgrow
      have g0 : Boxed w1 w.heap.size 3 (.int .i64 (n : Int)) := (e0.alloc _).kept hgrow (row_far eown (by omega))
      have g1 : Boxed w1 (w.heap.size + 1) 28 (.slice (some ⟨b0, off, none⟩) M cap) := (e1.alloc _).kept hgrow (row_far eown (by omega))
      have g2 : Boxed w1 (w.heap.size + 1 + 1) 28 v := (e2.alloc _).kept hgrow (row_far eown (by omega))
      have rf1 : RF (keepO (fun _ _ => false) (V.heap.size + 2) 4) V.heap.size X w1 := rf_rowGrown (rf0.alloc _) (eown.alloc _) (fun j hj => by simp [keepO]; omega) hgrow
      have y1 := (B1.cell (p := ⟨b0, off + (u + b), none⟩) hb0).trans YW.out
      have gc2 := g2.cell
      have gf2 := g2.frozen
      refine hK.out _ _ ⟨g1.cell, g0.cell, y1⟩ (fun hS => ?_)
      clear hK K
      try dsimp only [Act.put]
      refine wpAnyH_ready (rs := [11]) (by kernel_rfl) (by simp) (AllReadyH.cons rfl (fun K hK => ?_) AllReadyH.nil)
      go_simp
      have y2 := (World.cell?_setCell_far w1 ⟨w.heap.size + 1 + 1, 0, none⟩ ⟨b0, off + (u + b), none⟩ (.slice (some ⟨g, 0, none⟩) (P.length + 1) cap1) (by simp; omega)).trans y1
      refine hK.out _ _ ⟨(g1.other (by omega) _).cell, (g0.other (by omega) _).cell, y2⟩ (fun hS => ?_)
      clear hK K
      refine wpAnyH_done (by kernel_rfl) ?_ _
      refine ⟨rf1.set g2 (by simp [keepO]; omega) _, _, g0.other (by omega) _, g1.other (by omega) _, g2.set _, ?_, B1.setCell (p := ⟨w.heap.size + 1 + 1, 0, none⟩) (by simp; omega) _⟩
      rw [hnext.out, List.map_append, List.length_append]
      exact hown'.kept (grownBy_setCell' w1 _ _) (.inr (row_far hown' (by omega)).symm)
    · go_simp
      refine hK.out _ _ ⟨(e1.alloc _).cell, (e0.alloc _).cell, yA⟩ (fun hS => ?_)
      clear hK K
      try dsimp only [Act.put]
      refine wpAnyH_ready (rs := [0]) (by kernel_rfl) (by simp) (AllReadyH.cons rfl (fun K hK => ?_) AllReadyH.nil)
      go_simp
      refine hK.out _ _ ⟨(e1.alloc _).cell, (e0.alloc _).cell, yA⟩ (fun hS => ?_)
      clear hK K
      try dsimp only [Act.put]
      refine wpAnyH_ready (rs := [10]) (by kernel_rfl) (by simp) (AllReadyH.cons rfl (fun K hK => ?_) AllReadyH.nil)
      refine step_append_lies _ rfl (.tmp 15) (.tmp 24) 28 rfl (w.heap.size + 11) 3 i0 (.int .i64 0) 1 8 Tryd.underlying28 hi hz0 hz1 hz2 rfl (by decide) v P.length (P.map intV) rfl (eown.alloc _) ⟨Y.heap.size, 0, none⟩ 1 1 [.int .i64 y] rfl rfl (cells_one Y _ _) (by simp [Value.oneCell']) (by decide) hml hml2 (by simp; omega) _ rfl ?_
      intro g cap1 w1 hown' hgrow hat hlt
      have B1 : Below w.heap.size w w1 := grown_below BA (by simp; omega) (by omega) (eown.alloc _) hgrow
      have g0 : Boxed w1 w.heap.size 3 (.int .i64 (n : Int)) := (e0.alloc _).kept hgrow (row_far eown (by omega))
      have g1 : Boxed w1 (w.heap.size + 1) 28 (.slice (some ⟨b0, off, none⟩) M cap) := (e1.alloc _).kept hgrow (row_far eown (by omega))
      have g2 : Boxed w1 (w.heap.size + 1 + 1) 28 v := (e2.alloc _).kept hgrow (row_far eown (by omega))
      have rf1 : RF (keepO (fun _ _ => false) (V.heap.size + 2) 4) V.heap.size X w1 := rf_rowGrown (rf0.alloc _) (eown.alloc _) (fun j hj => by simp [keepO]; omega) hgrow
      have y1 := (B1.cell (p := ⟨b0, off + (u + b), none⟩) hb0).trans YW.out
      have gc2 := g2.cell
      have gf2 := g2.frozen
      refine hK.out _ _ ⟨g1.cell, g0.cell, y1⟩ (fun hS => ?_)
      clear hK K
      try dsimp only [Act.put]
      refine wpAnyH_ready (rs := [11]) (by kernel_rfl) (by simp) (AllReadyH.cons rfl (fun K hK => ?_) AllReadyH.nil)
      go_simp
      have y2 := (World.cell?_setCell_far w1 ⟨w.heap.size + 1 + 1, 0, none⟩ ⟨b0, off + (u + b), none⟩ (.slice (some ⟨g, 0, none⟩) (P.length + 1) cap1) (by simp; omega)).trans y1
      refine hK.out _ _ ⟨(g1.other (by omega) _).cell, (g0.other (by omega) _).cell, y2⟩ (fun hS => ?_)
      clear hK K
      refine wpAnyH_done (by kernel_rfl) ?_ _
      refine ⟨rf1.set g2 (by simp [keepO]; omega) _, _, g0.other (by omega) _, g1.other (by omega) _, g2.set _, ?_, B1.setCell (p := ⟨w.heap.size + 1 + 1, 0, none⟩) (by simp; omega) _⟩
      rw [hnext.out, List.map_append, List.length_append]
      exact hown'.kept (grownBy_setCell' w1 _ _) (.inr (row_far hown' (by omega)).symm)
  case done =>
    rintro D X hD ⟨v, d0, d1, d2, hown, hB1⟩ hK
    have hc2 := d2.cell
    rw [stepsV_length, ← hsl, gathUpto_all] at hown
    have H2 := Lib.hid hown
    clear hown
    gi_wp2
    refine ⟨by simp, .inl ⟨_, _, rfl, run_takeDeferred hK, ?_⟩⟩
    exact ⟨_, results_tmp rfl _ _ _, v, rfl, hasInts_of_owns (ownsRow_putObj H2.out _ hK rfl), hB1.put (Nat.le_refl _) (by omega)⟩
  case stop => exact fun _ _ _ _ h _ => h.elim
#print axioms Tryd.gather_calls
end Go.Proofs
