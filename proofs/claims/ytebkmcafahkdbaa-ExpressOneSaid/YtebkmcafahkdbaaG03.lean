/- The document's own Check. Conditions: a name of 100 bytes at most (for the callee's sake). -/
import Derived.Test.YtebkmcafahkdbaaG02
import Derived.Deep.DeepCutAuto
import Derived.Deep.Cut
namespace Go.Proofs
open Go.RowKit Go.Shelf Go.Canon
attribute [local go_sem] Oper.semAt_some

/-- What stands in the middle of Check: the instance in its box, and the faults so far. -/
structure ChkS (w : World) (x : Ins) (vn vm : Value) (W : World) (v : Value) (l : List (Nat × Nat)) (c : Nat) : Prop where
  row : W.ownsRow (w.heap.size + 1) 61 2 v l.length (l.flatMap ftC)
  len : l.length ≤ c
  c0 : W.cell? ⟨w.heap.size, 0, none⟩ = some (.string x.name)
  c1 : W.cell? ⟨w.heap.size, 1, none⟩ = some (.int .i64 x.kind)
  c2 : W.cell? ⟨w.heap.size, 2, none⟩ = some (.int .i64 x.metric)
  c3 : W.cell? ⟨w.heap.size, 3, none⟩ = some (.int .i64 x.scale)
  c4 : W.cell? ⟨w.heap.size, 4, none⟩ = some (.int .i64 x.cap)
  c5 : W.cell? ⟨w.heap.size, 5, none⟩ = some (.int .i64 x.fleet)
  c6 : W.cell? ⟨w.heap.size, 6, none⟩ = some (vn)
  c7 : W.cell? ⟨w.heap.size, 7, none⟩ = some (vm)
  sz : w.heap.size + 1 ≤ W.heap.size
  below : Below w.heap.size w W
theorem ChkS.next {w W W' : World} {x : Ins} {vn vm v : Value} {l : List (Nat × Nat)} {c : Nat} (h : ChkS w x vn vm W v l c) (hb : Below W.heap.size W W') : ChkS w x vn vm W' v l c := by
  have hg : w.heap.size < W.heap.size := h.sz
  exact ⟨h.row.kept (row := none) ⟨hb.os, hb.tape, hb.output, hb.size, fun k hk _ => hb.block k hk⟩ (by cases v.ownBlock <;> simp), h.len, (hb.cell (p := ⟨w.heap.size, 0, none⟩) hg).trans h.c0, (hb.cell (p := ⟨w.heap.size, 1, none⟩) hg).trans h.c1, (hb.cell (p := ⟨w.heap.size, 2, none⟩) hg).trans h.c2, (hb.cell (p := ⟨w.heap.size, 3, none⟩) hg).trans h.c3, (hb.cell (p := ⟨w.heap.size, 4, none⟩) hg).trans h.c4, (hb.cell (p := ⟨w.heap.size, 5, none⟩) hg).trans h.c5, (hb.cell (p := ⟨w.heap.size, 6, none⟩) hg).trans h.c6, (hb.cell (p := ⟨w.heap.size, 7, none⟩) hg).trans h.c7, Nat.le_trans h.sz hb.size, h.below.trans (hb.mono (by omega))⟩
theorem ChkS.add {w W w1 : World} {x : Ins} {vn vm v v' : Value} {l : List (Nat × Nat)} {c f n : Nat} {tmp : Obj} (b : Bool) (hb : b = false) (h : ChkS w x vn vm W v l c) (hown' : w1.ownsRow (w.heap.size + 1) 61 2 v' (l.length + 1) (l.flatMap ftC ++ ftC (f, n))) (hgrow : (W.alloc tmp).grownBy w1 v.ownBlock) : ChkS w x vn vm w1 v' (l ++ says b f n) (c + 1) := by
  have hg : w.heap.size < w.heap.size + 1 := Nat.lt_succ_self _
  have B1 : Below (w.heap.size + 1) W w1 := cgrown_below (Below.refl _ W) h.sz h.row hgrow
  have e : l ++ says b f n = l ++ [(f, n)] := by rw [hb]; rfl
  rw [e]
  refine ⟨by rw [flat_snoc, List.length_append]; exact hown', by rw [List.length_append]; have := h.len; simpa using this, (B1.cell (p := ⟨w.heap.size, 0, none⟩) hg).trans h.c0, (B1.cell (p := ⟨w.heap.size, 1, none⟩) hg).trans h.c1, (B1.cell (p := ⟨w.heap.size, 2, none⟩) hg).trans h.c2, (B1.cell (p := ⟨w.heap.size, 3, none⟩) hg).trans h.c3, (B1.cell (p := ⟨w.heap.size, 4, none⟩) hg).trans h.c4, (B1.cell (p := ⟨w.heap.size, 5, none⟩) hg).trans h.c5, (B1.cell (p := ⟨w.heap.size, 6, none⟩) hg).trans h.c6, (B1.cell (p := ⟨w.heap.size, 7, none⟩) hg).trans h.c7, Nat.le_trans h.sz B1.size, h.below.trans (B1.mono (by omega))⟩
theorem ChkS.skip {w W : World} {x : Ins} {vn vm v : Value} {l : List (Nat × Nat)} {c f n : Nat} (b : Bool) (hb : b = true) (h : ChkS w x vn vm W v l c) : ChkS w x vn vm W v (l ++ says b f n) (c + 1) := by
  have e : l ++ says b f n = l := by rw [hb]; exact List.append_nil _
  rw [e]
  exact ⟨h.row, Nat.le_succ_of_le h.len, h.c0, h.c1, h.c2, h.c3, h.c4, h.c5, h.c6, h.c7, h.sz, h.below⟩

theorem chk_start (w : World) (x : Ins) (vn vm : Value) (t : TypeId) : ChkS w x vn vm ((w.alloc (.cells #[.string x.name, .int .i64 x.kind, .int .i64 x.metric, .int .i64 x.scale, .int .i64 x.cap, .int .i64 x.fleet, vn, vm] t)).alloc (.cells #[] 61)) (.slice (some ⟨w.heap.size + 1, 0, none⟩) 0 0) [] 0 := by
  have hs : (w.alloc (.cells #[.string x.name, .int .i64 x.kind, .int .i64 x.metric, .int .i64 x.scale, .int .i64 x.cap, .int .i64 x.fleet, vn, vm] t)).heap.size = w.heap.size + 1 := by show (w.heap.push _).size = _; simp
  have hs2 : ((w.alloc (.cells #[.string x.name, .int .i64 x.kind, .int .i64 x.metric, .int .i64 x.scale, .int .i64 x.cap, .int .i64 x.fleet, vn, vm] t)).alloc (.cells #[] 61)).heap.size = w.heap.size + 2 := by show (Array.push _ _).size = _; rw [Array.size_push, hs]
  have hc := fun j => cell_old' w (.cells #[] 61) #[.string x.name, .int .i64 x.kind, .int .i64 x.metric, .int .i64 x.scale, .int .i64 x.cap, .int .i64 x.fleet, vn, vm] t j
  have ho := cowns_empty (w.alloc (.cells #[.string x.name, .int .i64 x.kind, .int .i64 x.metric, .int .i64 x.scale, .int .i64 x.cap, .int .i64 x.fleet, vn, vm] t)) 61 2
  rw [hs] at ho
  exact ⟨ho, Nat.le_refl _, hc 0, hc 1, hc 2, hc 3, hc 4, hc 5, hc 6, hc 7, by rw [hs2]; omega, below_two _ _ _⟩
set_option maxRecDepth 100000 in
set_option maxHeartbeats 8000000 in
theorem Try.rcheck_calls (NB : ByteArray → Bool) (hNB : ∀ (s : ByteArray) (W : World), s.size ≤ 100 → Calls Try.prog 47 #[.string s] W fun e w' => e = .returned (.bool (NB s)) ∧ Below W.heap.size W w')
    (hKB : ∀ (m : Int) (W : World), Calls Try.prog 48 #[.int .i64 m] W fun e w' => e = .returned (.bool (metricB m)) ∧ Below W.heap.size W w')
    (x : Ins) (vn vm : Value) (w : World) (hx : HasIns w vn vm x) (hs : x.name.size ≤ 100) :
    Calls Try.prog 30 #[insV x vn vm] w fun e w' => ∃ v', e = .returned v' ∧ w'.ownsRow (w.heap.size + 1) 61 2 v' (checkL NB x).length ((checkL NB x).flatMap ftC) ∧ Below w.heap.size w w' := by
  obtain ⟨i0, hi, hz0, hz1, hz2⟩ := info_parts Try.info61
  have HI := Lib.hid hi
  have HNB := fun W => hNB x.name W hs
  have HKB := fun W => hKB x.metric W
  have HX := Lib.hid hx
  have H5 : Hid (∀ (W : World) (u1 u2 : Value), HasIns W u1 u2 x → 1 ≤ x.nodes.length → x.nodes.length ≤ 400 → Calls Try.prog 49 #[.agg #[.string x.name, .int .i64 x.kind, .int .i64 x.metric, .int .i64 x.scale, .int .i64 x.cap, .int .i64 x.fleet, u1, u2]] W fun e w' => e = .returned (.bool (matrixB x)) ∧ Below W.heap.size W w') := fun W u1 u2 h a b => Try.rmatrix_calls x u1 u2 W h b a
  have J34 : Hid (∀ (W : World) (u1 u2 : Value) (i : Nat), HasIns W u1 u2 x → i < x.nodes.length → Calls Try.prog 50 #[.agg #[.string x.name, .int .i64 x.kind, .int .i64 x.metric, .int .i64 x.scale, .int .i64 x.cap, .int .i64 x.fleet, u1, u2], .int .i64 (i : Int)] W fun e w' => e = .returned (.bool (coordB x.metric (at' x i))) ∧ Below W.heap.size W w') := fun W u1 u2 i h a => Try.rcoord_calls x u1 u2 i W h a
  have J35 : Hid (∀ (W : World) (u1 u2 : Value) (i : Nat), HasIns W u1 u2 x → i < x.nodes.length → Calls Try.prog 51 #[.agg #[.string x.name, .int .i64 x.kind, .int .i64 x.metric, .int .i64 x.scale, .int .i64 x.cap, .int .i64 x.fleet, u1, u2], .int .i64 (i : Int)] W fun e w' => e = .returned (.bool (demandB x.kind i (at' x i))) ∧ Below W.heap.size W w') := fun W u1 u2 i h a => Try.rdemand_calls x u1 u2 i W h a
  have J36 : Hid (∀ (W : World) (u1 u2 : Value) (i : Nat), HasIns W u1 u2 x → i < x.nodes.length → Calls Try.prog 52 #[.agg #[.string x.name, .int .i64 x.kind, .int .i64 x.metric, .int .i64 x.scale, .int .i64 x.cap, .int .i64 x.fleet, u1, u2], .int .i64 (i : Int)] W fun e w' => e = .returned (.bool (windowB x.kind (at' x i))) ∧ Below W.heap.size W w') := fun W u1 u2 i h a => Try.rwindow_calls x u1 u2 i W h a
  have J37 : Hid (∀ (W : World) (u1 u2 : Value) (i : Nat), HasIns W u1 u2 x → i < x.nodes.length → Calls Try.prog 53 #[.agg #[.string x.name, .int .i64 x.kind, .int .i64 x.metric, .int .i64 x.scale, .int .i64 x.cap, .int .i64 x.fleet, u1, u2], .int .i64 (i : Int)] W fun e w' => e = .returned (.bool (serviceB x.kind (at' x i))) ∧ Below W.heap.size W w') := fun W u1 u2 i h a => Try.rservice_calls x u1 u2 i W h a
  have J38 : Hid (∀ (W : World) (u1 u2 : Value) (i : Nat), HasIns W u1 u2 x → i < x.nodes.length → Calls Try.prog 54 #[.agg #[.string x.name, .int .i64 x.kind, .int .i64 x.metric, .int .i64 x.scale, .int .i64 x.cap, .int .i64 x.fleet, u1, u2], .int .i64 (i : Int)] W fun e w' => e = .returned (.bool (mateB x i)) ∧ Below W.heap.size W w') := fun W u1 u2 i h a => Try.rmate_calls x u1 u2 i W h a
  obtain ⟨an, cn, rfl, _⟩ := hx.nodes.dat
  obtain ⟨am, cm, rfl, _⟩ := hx.matrix.dat
  unfold insV
  clear hx hi hNB hKB hs
  obtain ⟨L, hL⟩ : ∃ L, x.nodes.length = L := ⟨_, rfl⟩
  rw [hL] at HX H5 J34 J35 J36 J37 J38 ⊢
  have HL := Lib.hid hL
  clear hL
  go_enter Try.func30, Try.ntmps30
  go_upto_region 2 with (fail)
  obtain ⟨l0, hl0⟩ : ∃ l0 : List (Nat × Nat), l0 = [] := ⟨_, rfl⟩
  have S0 : ChkS w x (.slice an L cn) (.slice am x.matrix.length cm) ((w.alloc (.cells #[.string x.name, .int .i64 x.kind, .int .i64 x.metric, .int .i64 x.scale, .int .i64 x.cap, .int .i64 x.fleet, .slice an L cn, .slice am x.matrix.length cm] 33)).alloc (.cells #[] 61)) (.slice (some ⟨w.heap.size + 1, 0, none⟩) 0 0) l0 0 := by rw [hl0]; exact chk_start _ _ _ _ _
  have HL0 := Lib.hid hl0
  clear hl0
  generalize x.matrix.length = M at *
  have HS := Lib.hid S0
  obtain ⟨-, -, c0, c1, c2, c3, c4, c5, c6, c7, -, -⟩ := S0
  obtain ⟨b1, hb1⟩ : ∃ b, NB x.name = b := ⟨_, rfl⟩
  rw [hb1] at HNB
  have HB1 := Lib.hid hb1
  clear hb1
  obtain ⟨b2, hb2⟩ : ∃ b, kindB x.kind = b := ⟨_, rfl⟩
  have HB2 := Lib.hid hb2
  clear hb2
  obtain ⟨b3, hb3⟩ : ∃ b, metricB x.metric = b := ⟨_, rfl⟩
  rw [hb3] at HKB
  have HB3 := Lib.hid hb3
  clear hb3
  obtain ⟨b4, hb4⟩ : ∃ b, scaleB x.metric x.scale = b := ⟨_, rfl⟩
  have HB4 := Lib.hid hb4
  clear hb4
  obtain ⟨b5, hb5⟩ : ∃ b, capB x.kind x.cap = b := ⟨_, rfl⟩
  have HB5 := Lib.hid hb5
  clear hb5
  obtain ⟨b6, hb6⟩ : ∃ b, fleetB x.kind x.fleet = b := ⟨_, rfl⟩
  have HB6 := Lib.hid hb6
  clear hb6
  obtain ⟨b8, hb8⟩ : ∃ b, matrixB x = b := ⟨_, rfl⟩
  rw [hb8] at H5
  have HB8 := Lib.hid hb8
  clear hb8
  go_upto_region 2 with (fail)
  go_cut [3, 10] from 7 to 10 (fun s3 sT wx => ChkS w x (.slice an L cn) (.slice am M cm) wx s3 l0 (0) ∧ sT = .bool (!b1))
  case first =>
    go_wp2_with (go_at_call 47; (with_reducible refine (HNB _).mono ?_); rintro e w1 ⟨rfl, hb1⟩)
    go_meet
    exact ⟨HS.out.next hb1, rfl⟩
  case rest =>
  obtain ⟨hcut, rfl⟩ := hcut
  clear HS c0 c1 c2 c3 c4 c5 c6 c7
  obtain ⟨W1, rfl⟩ : ∃ W, W = wc := ⟨_, rfl⟩
  obtain ⟨v0, rfl⟩ : ∃ v, v = u3 := ⟨_, rfl⟩
  have HS := Lib.hid hcut
  obtain ⟨row, len, c0, c1, c2, c3, c4, c5, c6, c7, sz, B⟩ := hcut
  clear HNB
  go_upto_if 10 with (fail)
  go_cut [3] from 7 to 14 (fun s3 wx => ChkS w x (.slice an L cn) (.slice am M cm) wx s3 (l0 ++ says b1 1 0) (1))
  case first =>
    have hml : l0.length + 1 ≤ maxLen := by unfold maxLen; omega
    have hml2 : (l0.length + 1) * 16 ≤ 140737488355328 := by omega
    cases b1 with
    | true =>
      go_wp2_with (fail)
      go_meet
      exact HS.out.skip true rfl
    | false =>
      go_wp2_with (at_builtin; refine wpList_append_own _ rfl _ _ 49 rfl (w.heap.size + 1) 61 i0 (.agg #[.int .i64 0, .int .i64 0]) 2 16 Try.underlying49 HI.out hz0 hz1 hz2 rfl (by decide) _ _ _ rfl (row.alloc _) ⟨W1.heap.size, 0, none⟩ 1 1 [.int .i64 1, .int .i64 0] rfl rfl (cells_pair W1 _ _ 61) (by simp [Value.oneCell']) hml hml2 (by simp; omega) ?_; intro v' w1 hown' hgrow _)
      go_meet
      exact HS.out.add false rfl hown' hgrow
  case rest =>
  clear row len sz B
  generalize hl : l0 ++ says b1 1 0 = l1 at hcut
  have HL1 := Lib.hid hl
  clear hl
  clear HS c0 c1 c2 c3 c4 c5 c6 c7
  obtain ⟨W2, rfl⟩ : ∃ W, W = wc := ⟨_, rfl⟩
  obtain ⟨v1, rfl⟩ : ∃ v, v = u3 := ⟨_, rfl⟩
  have HS := Lib.hid hcut
  obtain ⟨row, len, c0, c1, c2, c3, c4, c5, c6, c7, sz, B⟩ := hcut
  go_upto_region 4 with (fail)
  go_cut [22] from 15 to 22 (fun sT wx => W2 = wx ∧ sT = .bool (!b2))
  case first =>
    by_cases h1 : x.kind < 1
    ·
      have e : b2 = false := by rw [← HB2.out]; simp [kindB] <;> omega
      subst e
      clear HB2
      go_wp2_with (fail)
      go_meet
      exact ⟨rfl, rfl⟩
    · by_cases h2 : 4 < x.kind
      ·
        have e : b2 = false := by rw [← HB2.out]; simp [kindB] <;> omega
        subst e
        clear HB2
        go_wp2_with (fail)
        go_meet
        exact ⟨rfl, rfl⟩
      ·
        have e : b2 = true := by rw [← HB2.out]; simp [kindB] <;> omega
        subst e
        clear HB2
        go_wp2_with (fail)
        go_meet
        exact ⟨rfl, rfl⟩
  case rest =>
  obtain ⟨rfl, rfl⟩ := hcut
  go_upto_if 22 with (fail)
  go_cut [3] from 15 to 26 (fun s3 wx => ChkS w x (.slice an L cn) (.slice am M cm) wx s3 (l1 ++ says b2 2 0) (2))
  case first =>
    have hml : l1.length + 1 ≤ maxLen := by unfold maxLen; omega
    have hml2 : (l1.length + 1) * 16 ≤ 140737488355328 := by omega
    cases b2 with
    | true =>
      go_wp2_with (fail)
      go_meet
      exact HS.out.skip true rfl
    | false =>
      go_wp2_with (at_builtin; refine wpList_append_own _ rfl _ _ 49 rfl (w.heap.size + 1) 61 i0 (.agg #[.int .i64 0, .int .i64 0]) 2 16 Try.underlying49 HI.out hz0 hz1 hz2 rfl (by decide) _ _ _ rfl (row.alloc _) ⟨W2.heap.size, 0, none⟩ 1 1 [.int .i64 2, .int .i64 0] rfl rfl (cells_pair W2 _ _ 61) (by simp [Value.oneCell']) hml hml2 (by simp; omega) ?_; intro v' w1 hown' hgrow _)
      go_meet
      exact HS.out.add false rfl hown' hgrow
  case rest =>
  clear row len sz B
  generalize hl : l1 ++ says b2 2 0 = l2 at hcut
  have HL2 := Lib.hid hl
  clear hl
  clear HS c0 c1 c2 c3 c4 c5 c6 c7
  obtain ⟨W3, rfl⟩ : ∃ W, W = wc := ⟨_, rfl⟩
  obtain ⟨v2, rfl⟩ : ∃ v, v = u3 := ⟨_, rfl⟩
  have HS := Lib.hid hcut
  obtain ⟨row, len, c0, c1, c2, c3, c4, c5, c6, c7, sz, B⟩ := hcut
  go_upto_region 6 with (fail)
  go_cut [30] from 27 to 30 (fun sT wx => ChkS w x (.slice an L cn) (.slice am M cm) wx v2 l2 (2) ∧ sT = .bool (!b3))
  case first =>
    go_wp2_with (go_at_call 48; (with_reducible refine (HKB _).mono ?_); rintro e w1 ⟨rfl, hb1⟩)
    go_meet
    exact ⟨HS.out.next hb1, rfl⟩
  case rest =>
  obtain ⟨hcut, rfl⟩ := hcut
  clear row len sz B
  clear HS c0 c1 c2 c3 c4 c5 c6 c7
  obtain ⟨W4, rfl⟩ : ∃ W, W = wc := ⟨_, rfl⟩
  have HS := Lib.hid hcut
  obtain ⟨row, len, c0, c1, c2, c3, c4, c5, c6, c7, sz, B⟩ := hcut
  clear HKB
  go_upto_if 30 with (fail)
  go_cut [3] from 27 to 34 (fun s3 wx => ChkS w x (.slice an L cn) (.slice am M cm) wx s3 (l2 ++ says b3 3 0) (3))
  case first =>
    have hml : l2.length + 1 ≤ maxLen := by unfold maxLen; omega
    have hml2 : (l2.length + 1) * 16 ≤ 140737488355328 := by omega
    cases b3 with
    | true =>
      go_wp2_with (fail)
      go_meet
      exact HS.out.skip true rfl
    | false =>
      go_wp2_with (at_builtin; refine wpList_append_own _ rfl _ _ 49 rfl (w.heap.size + 1) 61 i0 (.agg #[.int .i64 0, .int .i64 0]) 2 16 Try.underlying49 HI.out hz0 hz1 hz2 rfl (by decide) _ _ _ rfl (row.alloc _) ⟨W4.heap.size, 0, none⟩ 1 1 [.int .i64 3, .int .i64 0] rfl rfl (cells_pair W4 _ _ 61) (by simp [Value.oneCell']) hml hml2 (by simp; omega) ?_; intro v' w1 hown' hgrow _)
      go_meet
      exact HS.out.add false rfl hown' hgrow
  case rest =>
  clear row len sz B
  generalize hl : l2 ++ says b3 3 0 = l3 at hcut
  have HL3 := Lib.hid hl
  clear hl
  clear HS c0 c1 c2 c3 c4 c5 c6 c7
  obtain ⟨W5, rfl⟩ : ∃ W, W = wc := ⟨_, rfl⟩
  obtain ⟨v3, rfl⟩ : ∃ v, v = u3 := ⟨_, rfl⟩
  have HS := Lib.hid hcut
  obtain ⟨row, len, c0, c1, c2, c3, c4, c5, c6, c7, sz, B⟩ := hcut
  go_upto_region 8 with (fail)
  go_cut [52] from 35 to 52 (fun sT wx => W5 = wx ∧ sT = .bool (!b4))
  case first =>
    by_cases h1 : x.scale < 0
    ·
      have e : b4 = false := by rw [← HB4.out]; simp [scaleB] <;> omega
      subst e
      clear HB4
      go_wp2_with (fail)
      go_meet
      exact ⟨rfl, rfl⟩
    · by_cases h2 : 6 < x.scale
      ·
        have e : b4 = false := by rw [← HB4.out]; simp [scaleB] <;> omega
        subst e
        clear HB4
        go_wp2_with (fail)
        go_meet
        exact ⟨rfl, rfl⟩
      · by_cases h3 : x.metric = 0
        · have k3 : (x.metric == 0) = true := beq_iff_eq.2 h3
          by_cases h4 : x.scale = 0
          · have k4 : (x.scale != 0) = false := bne_eq_false_iff_eq.2 h4
            have e : b4 = true := by rw [← HB4.out]; simp [scaleB, h3, h4] <;> omega
            subst e
            clear HB4 h3 h4
            go_wp2_with (fail)
            go_meet
            exact ⟨rfl, rfl⟩
          · have k4 : (x.scale != 0) = true := bne_iff_ne.2 h4
            have e : b4 = false := by rw [← HB4.out]; simp [scaleB, h3, h4] <;> omega
            subst e
            clear HB4 h3 h4
            go_wp2_with (fail)
            go_meet
            exact ⟨rfl, rfl⟩
        · have k3 : (x.metric == 0) = false := beq_eq_false_iff_ne.2 h3
          have e : b4 = true := by rw [← HB4.out]; simp [scaleB, h3] <;> omega
          subst e
          clear HB4 h3
          go_wp2_with (fail)
          go_meet
          exact ⟨rfl, rfl⟩
  case rest =>
  obtain ⟨rfl, rfl⟩ := hcut
  go_upto_if 52 with (fail)
  go_cut [3] from 35 to 56 (fun s3 wx => ChkS w x (.slice an L cn) (.slice am M cm) wx s3 (l3 ++ says b4 4 0) (4))
  case first =>
    have hml : l3.length + 1 ≤ maxLen := by unfold maxLen; omega
    have hml2 : (l3.length + 1) * 16 ≤ 140737488355328 := by omega
    cases b4 with
    | true =>
      go_wp2_with (fail)
      go_meet
      exact HS.out.skip true rfl
    | false =>
      go_wp2_with (at_builtin; refine wpList_append_own _ rfl _ _ 49 rfl (w.heap.size + 1) 61 i0 (.agg #[.int .i64 0, .int .i64 0]) 2 16 Try.underlying49 HI.out hz0 hz1 hz2 rfl (by decide) _ _ _ rfl (row.alloc _) ⟨W5.heap.size, 0, none⟩ 1 1 [.int .i64 4, .int .i64 0] rfl rfl (cells_pair W5 _ _ 61) (by simp [Value.oneCell']) hml hml2 (by simp; omega) ?_; intro v' w1 hown' hgrow _)
      go_meet
      exact HS.out.add false rfl hown' hgrow
  case rest =>
  clear row len sz B
  generalize hl : l3 ++ says b4 4 0 = l4 at hcut
  have HL4 := Lib.hid hl
  clear hl
  clear HS c0 c1 c2 c3 c4 c5 c6 c7
  obtain ⟨W6, rfl⟩ : ∃ W, W = wc := ⟨_, rfl⟩
  obtain ⟨v4, rfl⟩ : ∃ v, v = u3 := ⟨_, rfl⟩
  have HS := Lib.hid hcut
  obtain ⟨row, len, c0, c1, c2, c3, c4, c5, c6, c7, sz, B⟩ := hcut
  go_upto_region 10 with (fail)
  go_cut [79] from 57 to 79 (fun sT wx => W6 = wx ∧ sT = .bool (!b5))
  case first =>
    by_cases h3 : x.kind = 1
    · have k3 : (x.kind == 1) = true := beq_iff_eq.2 h3
      have k5 : (x.kind != 1) = false := bne_eq_false_iff_eq.2 h3
      by_cases h4 : x.cap = 0
      · have k4 : (x.cap != 0) = false := bne_eq_false_iff_eq.2 h4
        have e : b5 = true := by rw [← HB5.out]; simp [capB, h3, h4] <;> omega
        subst e
        clear HB5 h3 h4
        go_wp2_with (fail)
        go_meet
        exact ⟨rfl, rfl⟩
      · have k4 : (x.cap != 0) = true := bne_iff_ne.2 h4
        have e : b5 = false := by rw [← HB5.out]; simp [capB, h3, h4] <;> omega
        subst e
        clear HB5 h3 h4
        go_wp2_with (fail)
        go_meet
        exact ⟨rfl, rfl⟩
    · have k3 : (x.kind == 1) = false := beq_eq_false_iff_ne.2 h3
      have k5 : (x.kind != 1) = true := bne_iff_ne.2 h3
      by_cases h1 : x.cap < 1
      ·
        have e : b5 = false := by rw [← HB5.out]; simp [capB, h3] <;> omega
        subst e
        clear HB5 h3
        go_wp2_with (fail)
        go_meet
        exact ⟨rfl, rfl⟩
      · by_cases h2 : 100000000 < x.cap
        ·
          have e : b5 = false := by rw [← HB5.out]; simp [capB, h3] <;> omega
          subst e
          clear HB5 h3
          go_wp2_with (fail)
          go_meet
          exact ⟨rfl, rfl⟩
        ·
          have e : b5 = true := by rw [← HB5.out]; simp [capB, h3] <;> omega
          subst e
          clear HB5 h3
          go_wp2_with (fail)
          go_meet
          exact ⟨rfl, rfl⟩
  case rest =>
  obtain ⟨rfl, rfl⟩ := hcut
  go_upto_if 79 with (fail)
  go_cut [3] from 57 to 83 (fun s3 wx => ChkS w x (.slice an L cn) (.slice am M cm) wx s3 (l4 ++ says b5 5 0) (5))
  case first =>
    have hml : l4.length + 1 ≤ maxLen := by unfold maxLen; omega
    have hml2 : (l4.length + 1) * 16 ≤ 140737488355328 := by omega
    cases b5 with
    | true =>
      go_wp2_with (fail)
      go_meet
      exact HS.out.skip true rfl
    | false =>
      go_wp2_with (at_builtin; refine wpList_append_own _ rfl _ _ 49 rfl (w.heap.size + 1) 61 i0 (.agg #[.int .i64 0, .int .i64 0]) 2 16 Try.underlying49 HI.out hz0 hz1 hz2 rfl (by decide) _ _ _ rfl (row.alloc _) ⟨W6.heap.size, 0, none⟩ 1 1 [.int .i64 5, .int .i64 0] rfl rfl (cells_pair W6 _ _ 61) (by simp [Value.oneCell']) hml hml2 (by simp; omega) ?_; intro v' w1 hown' hgrow _)
      go_meet
      exact HS.out.add false rfl hown' hgrow
  case rest =>
  clear row len sz B
  generalize hl : l4 ++ says b5 5 0 = l5 at hcut
  have HL5 := Lib.hid hl
  clear hl
  clear HS c0 c1 c2 c3 c4 c5 c6 c7
  obtain ⟨W7, rfl⟩ : ∃ W, W = wc := ⟨_, rfl⟩
  obtain ⟨v5, rfl⟩ : ∃ v, v = u3 := ⟨_, rfl⟩
  have HS := Lib.hid hcut
  obtain ⟨row, len, c0, c1, c2, c3, c4, c5, c6, c7, sz, B⟩ := hcut
  go_upto_region 12 with (fail)
  go_cut [106] from 84 to 106 (fun sT wx => W7 = wx ∧ sT = .bool (!b6))
  case first =>
    by_cases h3 : x.kind = 1
    · have k3 : (x.kind == 1) = true := beq_iff_eq.2 h3
      have k5 : (x.kind != 1) = false := bne_eq_false_iff_eq.2 h3
      by_cases h4 : x.fleet = 0
      · have k4 : (x.fleet != 0) = false := bne_eq_false_iff_eq.2 h4
        have e : b6 = true := by rw [← HB6.out]; simp [fleetB, h3, h4] <;> omega
        subst e
        clear HB6 h3 h4
        go_wp2_with (fail)
        go_meet
        exact ⟨rfl, rfl⟩
      · have k4 : (x.fleet != 0) = true := bne_iff_ne.2 h4
        have e : b6 = false := by rw [← HB6.out]; simp [fleetB, h3, h4] <;> omega
        subst e
        clear HB6 h3 h4
        go_wp2_with (fail)
        go_meet
        exact ⟨rfl, rfl⟩
    · have k3 : (x.kind == 1) = false := beq_eq_false_iff_ne.2 h3
      have k5 : (x.kind != 1) = true := bne_iff_ne.2 h3
      by_cases h1 : x.fleet < 0
      ·
        have e : b6 = false := by rw [← HB6.out]; simp [fleetB, h3] <;> omega
        subst e
        clear HB6 h3
        go_wp2_with (fail)
        go_meet
        exact ⟨rfl, rfl⟩
      · by_cases h2 : 400 < x.fleet
        ·
          have e : b6 = false := by rw [← HB6.out]; simp [fleetB, h3] <;> omega
          subst e
          clear HB6 h3
          go_wp2_with (fail)
          go_meet
          exact ⟨rfl, rfl⟩
        ·
          have e : b6 = true := by rw [← HB6.out]; simp [fleetB, h3] <;> omega
          subst e
          clear HB6 h3
          go_wp2_with (fail)
          go_meet
          exact ⟨rfl, rfl⟩
  case rest =>
  obtain ⟨rfl, rfl⟩ := hcut
  go_upto_if 106 with (fail)
  go_cut [3] from 84 to 110 (fun s3 wx => ChkS w x (.slice an L cn) (.slice am M cm) wx s3 (l5 ++ says b6 6 0) (6))
  case first =>
    have hml : l5.length + 1 ≤ maxLen := by unfold maxLen; omega
    have hml2 : (l5.length + 1) * 16 ≤ 140737488355328 := by omega
    cases b6 with
    | true =>
      go_wp2_with (fail)
      go_meet
      exact HS.out.skip true rfl
    | false =>
      go_wp2_with (at_builtin; refine wpList_append_own _ rfl _ _ 49 rfl (w.heap.size + 1) 61 i0 (.agg #[.int .i64 0, .int .i64 0]) 2 16 Try.underlying49 HI.out hz0 hz1 hz2 rfl (by decide) _ _ _ rfl (row.alloc _) ⟨W7.heap.size, 0, none⟩ 1 1 [.int .i64 6, .int .i64 0] rfl rfl (cells_pair W7 _ _ 61) (by simp [Value.oneCell']) hml hml2 (by simp; omega) ?_; intro v' w1 hown' hgrow _)
      go_meet
      exact HS.out.add false rfl hown' hgrow
  case rest =>
  clear row len sz B
  generalize hl : l5 ++ says b6 6 0 = l6 at hcut
  have HL6 := Lib.hid hl
  clear hl
  clear HS c0 c1 c2 c3 c4 c5 c6 c7
  obtain ⟨W8, rfl⟩ : ∃ W, W = wc := ⟨_, rfl⟩
  obtain ⟨v6, rfl⟩ : ∃ v, v = u3 := ⟨_, rfl⟩
  have HS := Lib.hid hcut
  obtain ⟨row, len, c0, c1, c2, c3, c4, c5, c6, c7, sz, B⟩ := hcut
  have HE : Hid (heads NB x = l6) := by
    unfold Hid heads
    rw [HB1.out, HB2.out, HB3.out, HB4.out, HB5.out, HB6.out, ← HL6.out, ← HL5.out, ← HL4.out, ← HL3.out, ← HL2.out, ← HL1.out, HL0.out, List.nil_append]
  clear HL0 HL1 HL2 HL3 HL4 HL5 HL6 HB1 HB2 HB3 HB4 HB5 HB6

  go_upto_region 15 with (fail)
  by_cases hL1 : L < 1 ∨ 400 < L
  · have HC : Hid (checkL NB x = l6 ++ [(7, 0)]) := by
      unfold Hid checkL
      rw [if_pos (by rw [HL.out]; exact hL1), HE.out]
    have hml : l6.length + 1 ≤ maxLen := by unfold maxLen; omega
    have hml2 : (l6.length + 1) * 16 ≤ 140737488355328 := by omega
    by_cases hL2 : L < 1
    · have hL3 : (L : Int) < 1 := by omega
      clear hL1 hL2
      go_wp2_with (at_builtin; refine wpList_append_own _ rfl _ _ 49 rfl (w.heap.size + 1) 61 i0 (.agg #[.int .i64 0, .int .i64 0]) 2 16 Try.underlying49 HI.out hz0 hz1 hz2 rfl (by decide) _ _ _ rfl (row.alloc _) ⟨W8.heap.size, 0, none⟩ 1 1 [.int .i64 7, .int .i64 0] rfl rfl (cells_pair W8 _ _ 61) (by simp [Value.oneCell']) hml hml2 (by simp; omega) ?_; intro v' w1 hown' hgrow _)
      go_ret
      have R := HS.out.add false rfl hown' hgrow
      exact ⟨_, rfl, by rw [HC.out]; exact R.row, R.below⟩
    · have hL3 : ¬ (L : Int) < 1 := by omega
      have hL4 : (400 : Int) < (L : Int) := by omega
      clear hL1 hL2
      go_wp2_with (at_builtin; refine wpList_append_own _ rfl _ _ 49 rfl (w.heap.size + 1) 61 i0 (.agg #[.int .i64 0, .int .i64 0]) 2 16 Try.underlying49 HI.out hz0 hz1 hz2 rfl (by decide) _ _ _ rfl (row.alloc _) ⟨W8.heap.size, 0, none⟩ 1 1 [.int .i64 7, .int .i64 0] rfl rfl (cells_pair W8 _ _ 61) (by simp [Value.oneCell']) hml hml2 (by simp; omega) ?_; intro v' w1 hown' hgrow _)
      go_ret
      have R := HS.out.add false rfl hown' hgrow
      exact ⟨_, rfl, by rw [HC.out]; exact R.row, R.below⟩
  have hLo : 1 ≤ L := by omega
  have hHi : L ≤ 400 := by omega
  clear hL1
  go_upto_region 17 with (fail)
  go_cut [126] from 124 to 126 (fun sT wx => ChkS w x (.slice an L cn) (.slice am M cm) wx v6 l6 6 ∧ sT = .bool (!b8))
  case first =>
    go_wp2_with (go_at_call 49; (with_reducible refine (H5.out _ _ _ (HX.out.next B) hLo hHi).mono ?_); rintro e w1 ⟨rfl, hb1⟩)
    go_meet
    exact ⟨HS.out.next hb1, rfl⟩
  case rest =>
  obtain ⟨hcut, rfl⟩ := hcut
  clear row len sz B H5
  clear HS c0 c1 c2 c3 c4 c5 c6 c7
  obtain ⟨W9, rfl⟩ : ∃ W, W = wc := ⟨_, rfl⟩
  have HS := Lib.hid hcut
  obtain ⟨row, len, c0, c1, c2, c3, c4, c5, c6, c7, sz, B⟩ := hcut
  go_upto_if 126 with (fail)
  go_cut [3] from 124 to 130 (fun s3 wx => ChkS w x (.slice an L cn) (.slice am M cm) wx s3 (l6 ++ says b8 8 0) (7))
  case first =>
    have hml : l6.length + 1 ≤ maxLen := by unfold maxLen; omega
    have hml2 : (l6.length + 1) * 16 ≤ 140737488355328 := by omega
    cases b8 with
    | true =>
      go_wp2_with (fail)
      go_meet
      exact HS.out.skip true rfl
    | false =>
      go_wp2_with (at_builtin; refine wpList_append_own _ rfl _ _ 49 rfl (w.heap.size + 1) 61 i0 (.agg #[.int .i64 0, .int .i64 0]) 2 16 Try.underlying49 HI.out hz0 hz1 hz2 rfl (by decide) _ _ _ rfl (row.alloc _) ⟨W9.heap.size, 0, none⟩ 1 1 [.int .i64 8, .int .i64 0] rfl rfl (cells_pair W9 _ _ 61) (by simp [Value.oneCell']) hml hml2 (by simp; omega) ?_; intro v' w1 hown' hgrow _)
      go_meet
      exact HS.out.add false rfl hown' hgrow
  case rest =>
  clear row len sz B
  generalize hl : l6 ++ says b8 8 0 = l7 at hcut
  have HL7 := Lib.hid hl
  clear hl
  clear HS c0 c1 c2 c3 c4 c5 c6 c7
  obtain ⟨X0, rfl⟩ : ∃ W, W = wc := ⟨_, rfl⟩
  obtain ⟨v7, rfl⟩ : ∃ v, v = u3 := ⟨_, rfl⟩
  have HS := Lib.hid hcut
  obtain ⟨row, len, c0, c1, c2, c3, c4, c5, c6, c7, sz, B⟩ := hcut
  have HC : Hid (checkL NB x = l7 ++ nodesF x L) := by
    unfold Hid checkL
    rw [if_neg (by rw [HL.out]; omega), HL.out, HE.out, HB8.out, ← HL7.out, List.append_assoc]
  clear HL7 HB8 HE
  go_wp2_with (fail)
  go_loopw [3, 5] (fun v i wr => ∃ k : Nat, k ≤ L ∧ i = .int .i64 (k : Int) ∧ ChkS w x (.slice an L cn) (.slice am M cm) wr v (l7 ++ nodesF x k) (7 + 5 * k)) (fun _ i _ => L - (intOf i).toNat)
  case atStart => exact ⟨0, Nat.zero_le _, rfl, by rw [nodesF, List.append_nil]; exact HS.out⟩
  case round =>
    clear HS c0 c1 c2 c3 c4 c5 c6 c7 row len sz B
    obtain ⟨k, hk, rfl, hS⟩ := hrel
    by_cases hlt : k < L
    · have hki : (k : Int) < (L : Int) := by omega
      generalize hm0 : l7 ++ nodesF x k = m0 at hS
      have HM0 := Lib.hid hm0
      clear hm0
      have HS := Lib.hid hS
      obtain ⟨row, len, c0, c1, c2, c3, c4, c5, c6, c7, sz, B⟩ := hS
      have K34 := fun (W : World) (h : HasIns W (.slice an L cn) (.slice am M cm) x) => J34.out W _ _ k h hlt
      have K35 := fun (W : World) (h : HasIns W (.slice an L cn) (.slice am M cm) x) => J35.out W _ _ k h hlt
      have K36 := fun (W : World) (h : HasIns W (.slice an L cn) (.slice am M cm) x) => J36.out W _ _ k h hlt
      have K37 := fun (W : World) (h : HasIns W (.slice an L cn) (.slice am M cm) x) => J37.out W _ _ k h hlt
      have K38 := fun (W : World) (h : HasIns W (.slice an L cn) (.slice am M cm) x) => J38.out W _ _ k h hlt
      clear J34 J35 J36 J37 J38
      obtain ⟨q0, rfl⟩ : ∃ v, v = u3 := ⟨_, rfl⟩
      obtain ⟨d9, hd9⟩ : ∃ b, coordB x.metric (at' x k) = b := ⟨_, rfl⟩
      rw [hd9] at K34
      have HD9 := Lib.hid hd9
      clear hd9
      obtain ⟨d10, hd10⟩ : ∃ b, demandB x.kind k (at' x k) = b := ⟨_, rfl⟩
      rw [hd10] at K35
      have HD10 := Lib.hid hd10
      clear hd10
      obtain ⟨d11, hd11⟩ : ∃ b, windowB x.kind (at' x k) = b := ⟨_, rfl⟩
      rw [hd11] at K36
      have HD11 := Lib.hid hd11
      clear hd11
      obtain ⟨d12, hd12⟩ : ∃ b, serviceB x.kind (at' x k) = b := ⟨_, rfl⟩
      rw [hd12] at K37
      have HD12 := Lib.hid hd12
      clear hd12
      obtain ⟨d13, hd13⟩ : ∃ b, mateB x k = b := ⟨_, rfl⟩
      rw [hd13] at K38
      have HD13 := Lib.hid hd13
      clear hd13
      go_upto_region 22 with (fail)
      go_cut [139] from 136 to 139 (fun sT wx => ChkS w x (.slice an L cn) (.slice am M cm) wx q0 m0 (7 + 5 * k) ∧ sT = .bool (!d9))
      case first =>
        go_wp2_with (go_at_call 50; (with_reducible refine (K34 _ (HX.out.next B)).mono ?_); rintro e w1 ⟨rfl, hb1⟩)
        go_meet
        exact ⟨HS.out.next hb1, rfl⟩
      case rest =>
      obtain ⟨hcut, rfl⟩ := hcut
      clear row len sz B
      clear HS c0 c1 c2 c3 c4 c5 c6 c7
      obtain ⟨Y0, rfl⟩ : ∃ W, W = wc := ⟨_, rfl⟩
      have HS := Lib.hid hcut
      obtain ⟨row, len, c0, c1, c2, c3, c4, c5, c6, c7, sz, B⟩ := hcut
      clear K34
      go_upto_if 139 with (fail)
      go_cut [3] from 136 to 144 (fun s3 wx => ChkS w x (.slice an L cn) (.slice am M cm) wx s3 (m0 ++ says d9 9 k) (7 + 5 * k + 1))
      case first =>
        have hml : m0.length + 1 ≤ maxLen := by unfold maxLen; omega
        have hml2 : (m0.length + 1) * 16 ≤ 140737488355328 := by omega
        cases d9 with
        | true =>
          go_wp2_with (fail)
          go_meet
          exact HS.out.skip true rfl
        | false =>
          go_wp2_with (at_builtin; refine wpList_append_own _ rfl _ _ 49 rfl (w.heap.size + 1) 61 i0 (.agg #[.int .i64 0, .int .i64 0]) 2 16 Try.underlying49 HI.out hz0 hz1 hz2 rfl (by decide) _ _ _ rfl (row.alloc _) ⟨Y0.heap.size, 0, none⟩ 1 1 [.int .i64 9, .int .i64 (k : Int)] rfl rfl (cells_pair Y0 _ _ 61) (by simp [Value.oneCell']) hml hml2 (by simp; omega) ?_; intro v' w1 hown' hgrow _)
          go_meet
          exact HS.out.add false rfl hown' hgrow
      case rest =>
      clear row len sz B
      generalize hl : m0 ++ says d9 9 k = m1 at hcut
      have HM1 := Lib.hid hl
      clear hl
      clear HS c0 c1 c2 c3 c4 c5 c6 c7
      obtain ⟨Z0, rfl⟩ : ∃ W, W = wc := ⟨_, rfl⟩
      obtain ⟨q1, rfl⟩ : ∃ v, v = u3 := ⟨_, rfl⟩
      have HS := Lib.hid hcut
      obtain ⟨row, len, c0, c1, c2, c3, c4, c5, c6, c7, sz, B⟩ := hcut
      go_upto_region 24 with (fail)
      go_cut [148] from 145 to 148 (fun sT wx => ChkS w x (.slice an L cn) (.slice am M cm) wx q1 m1 (7 + 5 * k + 1) ∧ sT = .bool (!d10))
      case first =>
        go_wp2_with (go_at_call 51; (with_reducible refine (K35 _ (HX.out.next B)).mono ?_); rintro e w1 ⟨rfl, hb1⟩)
        go_meet
        exact ⟨HS.out.next hb1, rfl⟩
      case rest =>
      obtain ⟨hcut, rfl⟩ := hcut
      clear row len sz B
      clear HS c0 c1 c2 c3 c4 c5 c6 c7
      obtain ⟨Y1, rfl⟩ : ∃ W, W = wc := ⟨_, rfl⟩
      have HS := Lib.hid hcut
      obtain ⟨row, len, c0, c1, c2, c3, c4, c5, c6, c7, sz, B⟩ := hcut
      clear K35
      go_upto_if 148 with (fail)
      go_cut [3] from 145 to 153 (fun s3 wx => ChkS w x (.slice an L cn) (.slice am M cm) wx s3 (m1 ++ says d10 10 k) (7 + 5 * k + 2))
      case first =>
        have hml : m1.length + 1 ≤ maxLen := by unfold maxLen; omega
        have hml2 : (m1.length + 1) * 16 ≤ 140737488355328 := by omega
        cases d10 with
        | true =>
          go_wp2_with (fail)
          go_meet
          exact HS.out.skip true rfl
        | false =>
          go_wp2_with (at_builtin; refine wpList_append_own _ rfl _ _ 49 rfl (w.heap.size + 1) 61 i0 (.agg #[.int .i64 0, .int .i64 0]) 2 16 Try.underlying49 HI.out hz0 hz1 hz2 rfl (by decide) _ _ _ rfl (row.alloc _) ⟨Y1.heap.size, 0, none⟩ 1 1 [.int .i64 10, .int .i64 (k : Int)] rfl rfl (cells_pair Y1 _ _ 61) (by simp [Value.oneCell']) hml hml2 (by simp; omega) ?_; intro v' w1 hown' hgrow _)
          go_meet
          exact HS.out.add false rfl hown' hgrow
      case rest =>
      clear row len sz B
      generalize hl : m1 ++ says d10 10 k = m2 at hcut
      have HM2 := Lib.hid hl
      clear hl
      clear HS c0 c1 c2 c3 c4 c5 c6 c7
      obtain ⟨Z1, rfl⟩ : ∃ W, W = wc := ⟨_, rfl⟩
      obtain ⟨q2, rfl⟩ : ∃ v, v = u3 := ⟨_, rfl⟩
      have HS := Lib.hid hcut
      obtain ⟨row, len, c0, c1, c2, c3, c4, c5, c6, c7, sz, B⟩ := hcut
      go_upto_region 26 with (fail)
      go_cut [157] from 154 to 157 (fun sT wx => ChkS w x (.slice an L cn) (.slice am M cm) wx q2 m2 (7 + 5 * k + 2) ∧ sT = .bool (!d11))
      case first =>
        go_wp2_with (go_at_call 52; (with_reducible refine (K36 _ (HX.out.next B)).mono ?_); rintro e w1 ⟨rfl, hb1⟩)
        go_meet
        exact ⟨HS.out.next hb1, rfl⟩
      case rest =>
      obtain ⟨hcut, rfl⟩ := hcut
      clear row len sz B
      clear HS c0 c1 c2 c3 c4 c5 c6 c7
      obtain ⟨Y2, rfl⟩ : ∃ W, W = wc := ⟨_, rfl⟩
      have HS := Lib.hid hcut
      obtain ⟨row, len, c0, c1, c2, c3, c4, c5, c6, c7, sz, B⟩ := hcut
      clear K36
      go_upto_if 157 with (fail)
      go_cut [3] from 154 to 162 (fun s3 wx => ChkS w x (.slice an L cn) (.slice am M cm) wx s3 (m2 ++ says d11 11 k) (7 + 5 * k + 3))
      case first =>
        have hml : m2.length + 1 ≤ maxLen := by unfold maxLen; omega
        have hml2 : (m2.length + 1) * 16 ≤ 140737488355328 := by omega
        cases d11 with
        | true =>
          go_wp2_with (fail)
          go_meet
          exact HS.out.skip true rfl
        | false =>
          go_wp2_with (at_builtin; refine wpList_append_own _ rfl _ _ 49 rfl (w.heap.size + 1) 61 i0 (.agg #[.int .i64 0, .int .i64 0]) 2 16 Try.underlying49 HI.out hz0 hz1 hz2 rfl (by decide) _ _ _ rfl (row.alloc _) ⟨Y2.heap.size, 0, none⟩ 1 1 [.int .i64 11, .int .i64 (k : Int)] rfl rfl (cells_pair Y2 _ _ 61) (by simp [Value.oneCell']) hml hml2 (by simp; omega) ?_; intro v' w1 hown' hgrow _)
          go_meet
          exact HS.out.add false rfl hown' hgrow
      case rest =>
      clear row len sz B
      generalize hl : m2 ++ says d11 11 k = m3 at hcut
      have HM3 := Lib.hid hl
      clear hl
      clear HS c0 c1 c2 c3 c4 c5 c6 c7
      obtain ⟨Z2, rfl⟩ : ∃ W, W = wc := ⟨_, rfl⟩
      obtain ⟨q3, rfl⟩ : ∃ v, v = u3 := ⟨_, rfl⟩
      have HS := Lib.hid hcut
      obtain ⟨row, len, c0, c1, c2, c3, c4, c5, c6, c7, sz, B⟩ := hcut
      go_upto_region 28 with (fail)
      go_cut [166] from 163 to 166 (fun sT wx => ChkS w x (.slice an L cn) (.slice am M cm) wx q3 m3 (7 + 5 * k + 3) ∧ sT = .bool (!d12))
      case first =>
        go_wp2_with (go_at_call 53; (with_reducible refine (K37 _ (HX.out.next B)).mono ?_); rintro e w1 ⟨rfl, hb1⟩)
        go_meet
        exact ⟨HS.out.next hb1, rfl⟩
      case rest =>
      obtain ⟨hcut, rfl⟩ := hcut
      clear row len sz B
      clear HS c0 c1 c2 c3 c4 c5 c6 c7
      obtain ⟨Y3, rfl⟩ : ∃ W, W = wc := ⟨_, rfl⟩
      have HS := Lib.hid hcut
      obtain ⟨row, len, c0, c1, c2, c3, c4, c5, c6, c7, sz, B⟩ := hcut
      clear K37
      go_upto_if 166 with (fail)
      go_cut [3] from 163 to 171 (fun s3 wx => ChkS w x (.slice an L cn) (.slice am M cm) wx s3 (m3 ++ says d12 12 k) (7 + 5 * k + 4))
      case first =>
        have hml : m3.length + 1 ≤ maxLen := by unfold maxLen; omega
        have hml2 : (m3.length + 1) * 16 ≤ 140737488355328 := by omega
        cases d12 with
        | true =>
          go_wp2_with (fail)
          go_meet
          exact HS.out.skip true rfl
        | false =>
          go_wp2_with (at_builtin; refine wpList_append_own _ rfl _ _ 49 rfl (w.heap.size + 1) 61 i0 (.agg #[.int .i64 0, .int .i64 0]) 2 16 Try.underlying49 HI.out hz0 hz1 hz2 rfl (by decide) _ _ _ rfl (row.alloc _) ⟨Y3.heap.size, 0, none⟩ 1 1 [.int .i64 12, .int .i64 (k : Int)] rfl rfl (cells_pair Y3 _ _ 61) (by simp [Value.oneCell']) hml hml2 (by simp; omega) ?_; intro v' w1 hown' hgrow _)
          go_meet
          exact HS.out.add false rfl hown' hgrow
      case rest =>
      clear row len sz B
      generalize hl : m3 ++ says d12 12 k = m4 at hcut
      have HM4 := Lib.hid hl
      clear hl
      clear HS c0 c1 c2 c3 c4 c5 c6 c7
      obtain ⟨Z3, rfl⟩ : ∃ W, W = wc := ⟨_, rfl⟩
      obtain ⟨q4, rfl⟩ : ∃ v, v = u3 := ⟨_, rfl⟩
      have HS := Lib.hid hcut
      obtain ⟨row, len, c0, c1, c2, c3, c4, c5, c6, c7, sz, B⟩ := hcut
      go_upto_region 30 with (fail)
      go_cut [175] from 172 to 175 (fun sT wx => ChkS w x (.slice an L cn) (.slice am M cm) wx q4 m4 (7 + 5 * k + 4) ∧ sT = .bool (!d13))
      case first =>
        go_wp2_with (go_at_call 54; (with_reducible refine (K38 _ (HX.out.next B)).mono ?_); rintro e w1 ⟨rfl, hb1⟩)
        go_meet
        exact ⟨HS.out.next hb1, rfl⟩
      case rest =>
      obtain ⟨hcut, rfl⟩ := hcut
      clear row len sz B
      clear HS c0 c1 c2 c3 c4 c5 c6 c7
      obtain ⟨Y4, rfl⟩ : ∃ W, W = wc := ⟨_, rfl⟩
      have HS := Lib.hid hcut
      obtain ⟨row, len, c0, c1, c2, c3, c4, c5, c6, c7, sz, B⟩ := hcut
      clear K38
      have HE : Hid (l7 ++ nodesF x (k + 1) = m4 ++ says d13 13 k) := by
        unfold Hid nodesF nodeF
        rw [HD9.out, HD10.out, HD11.out, HD12.out, HD13.out, ← HM4.out, ← HM3.out, ← HM2.out, ← HM1.out, ← HM0.out]
        simp only [List.append_assoc]
      have hml : m4.length + 1 ≤ maxLen := by unfold maxLen; omega
      have hml2 : (m4.length + 1) * 16 ≤ 140737488355328 := by omega
      clear HD9 HD10 HD11 HD12 HD13 HM0 HM1 HM2 HM3 HM4
      cases d13 with
      | true =>
        have R := Lib.hid (HS.out.skip (f := 13) (n := k) true rfl)
        clear HS row len sz B
        go_wp2_with (fail)
        go_roundw
        case rel =>
          exact ⟨k + 1, by omega, by go_num, by rw [HE.out, show 7 + 5 * (k + 1) = 7 + 5 * k + 5 by omega]; exact R.out⟩
        case measure => simp [intOf]; omega
      | false =>
        go_wp2_with (at_builtin; refine wpList_append_own _ rfl _ _ 49 rfl (w.heap.size + 1) 61 i0 (.agg #[.int .i64 0, .int .i64 0]) 2 16 Try.underlying49 HI.out hz0 hz1 hz2 rfl (by decide) _ _ _ rfl (row.alloc _) ⟨Y4.heap.size, 0, none⟩ 1 1 [.int .i64 13, .int .i64 (k : Int)] rfl rfl (cells_pair Y4 _ _ 61) (by simp [Value.oneCell']) hml hml2 (by simp; omega) ?_; intro v' w1 hown' hgrow _)
        have R := Lib.hid (HS.out.add (f := 13) (n := k) false rfl hown' hgrow)
        clear HS row len sz B hown' hgrow
        go_roundw
        case rel =>
          exact ⟨k + 1, by omega, by go_num, by rw [HE.out, show 7 + 5 * (k + 1) = 7 + 5 * k + 5 by omega]; exact R.out⟩
        case measure => simp [intOf]; omega
    · obtain rfl : k = L := by omega
      have HS := Lib.hid hS
      clear hS hlt
      go_wp2_with (fail)
      go_ret
      exact ⟨_, rfl, by rw [HC.out]; exact HS.out.row, HS.out.below⟩
end Go.Proofs
