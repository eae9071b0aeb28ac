/- The program's Check and Well. Conditions: a name of 100 bytes at most, a million nodes at most. -/
import Derived.Test.YtogpnkahgkidpaaCanonNodeP
namespace Go.Canon
theorem nodesF_len (x : Ins) (n : Nat) : (nodesF x n).length ≤ 5 * n := by
  induction n with
  | zero => exact Nat.le_refl _
  | succ n ih =>
    have h := (nodeF_in x n).length_le
    rw [nodesF, List.length_append]
    simp at h
    omega
theorem heads_len (N : ByteArray → Bool) (x : Ins) : (heads N x).length ≤ 6 := (heads_in N x).length_le
theorem few_has (n : Nat) : has (1, 400) (n : Int) = !(decide (n < 1 ∨ 400 < n)) := by
  unfold has
  rw [Bool.eq_iff_iff]; simp; omega
end Go.Canon
namespace Go.Proofs
open Go.RowKit Go.Shelf Go.Canon
attribute [local go_sem] Oper.semAt_some

/-- What stands in the middle of Check. -/
structure ChkP (w : World) (x : Ins) (vn vm : Value) (W : World) (v : Value) (l : List (Nat × Nat)) : Prop where
  pb : W.heap[w.heap.size]? = some (.cells #[.string x.name, .int .i64 x.kind, .int .i64 x.metric, .int .i64 x.scale, .int .i64 x.cap, .int .i64 x.fleet, vn, vm] 25)
  tell : TellS (w.heap.size + 1) W v l
  below : Below w.heap.size w W
theorem ChkP.step {w W W' : World} {x : Ins} {vn vm v v' : Value} {l l' : List (Nat × Nat)} (h : ChkP w x vn vm W v l) (h1 : TellS (w.heap.size + 1) W' v' l') (h2 : Told (w.heap.size + 1) W W') : ChkP w x vn vm W' v' l' :=
  ⟨h2.keep _ _ _ h.pb (by decide) (by decide), h1, h.below.trans (h2.below.mono (Nat.le_succ _))⟩
theorem ChkP.next {w W W' : World} {x : Ins} {vn vm v : Value} {l : List (Nat × Nat)} (h : ChkP w x vn vm W v l) (hb : Below W.heap.size W W') : ChkP w x vn vm W' v l :=
  h.step (h.tell.next hb) (Told.of hb (by have := h.tell.sz; omega))
theorem ChkP.p {w W : World} {x : Ins} {vn vm v : Value} {l : List (Nat × Nat)} (h : ChkP w x vn vm W v l) (j : Nat) : W.cell? ⟨w.heap.size, j, none⟩ = (#[Value.string x.name, .int .i64 x.kind, .int .i64 x.metric, .int .i64 x.scale, .int .i64 x.cap, .int .i64 x.fleet, vn, vm] : Array Value)[j]? := by
  unfold World.cell?; rw [h.pb]; rfl
theorem ChkP.f {w W : World} {x : Ins} {vn vm v : Value} {l : List (Nat × Nat)} (h : ChkP w x vn vm W v l) : W.cell? ⟨w.heap.size + 1, 0, none⟩ = some v := by
  unfold World.cell?; rw [h.tell.cb]; rfl
theorem chkp_start (w : World) (x : Ins) (vn vm : Value) : ChkP w x vn vm ((w.alloc (.cells #[.string x.name, .int .i64 x.kind, .int .i64 x.metric, .int .i64 x.scale, .int .i64 x.cap, .int .i64 x.fleet, vn, vm] 25)).alloc (.cells #[.slice none 0 0] 28)) (.slice none 0 0) [] := by
  have hs : (w.alloc (.cells #[.string x.name, .int .i64 x.kind, .int .i64 x.metric, .int .i64 x.scale, .int .i64 x.cap, .int .i64 x.fleet, vn, vm] 25)).heap.size = w.heap.size + 1 := by show (w.heap.push _).size = _; simp
  have h2 := World.alloc_heap_new (w.alloc (.cells #[.string x.name, .int .i64 x.kind, .int .i64 x.metric, .int .i64 x.scale, .int .i64 x.cap, .int .i64 x.fleet, vn, vm] 25)) (.cells #[.slice none 0 0] 28)
  rw [hs] at h2
  exact ⟨((below_box _ _).block _ (by rw [hs]; omega)).trans (World.alloc_heap_new w _), ⟨⟨rfl, .inl ⟨rfl, rfl⟩⟩, h2, by show _ ≤ (Array.push _ _).size; rw [Array.size_push, hs]; omega⟩, below_two _ _ _⟩
set_option maxRecDepth 100000 in
set_option maxHeartbeats 4000000 in
theorem Try.check_calls (x : Ins) (vn vm : Value) (w : World) (hx : HasIns w vn vm x) (hs : x.name.size ≤ 100) (hn : x.nodes.length ≤ 1000000) :
    Calls Try.prog 11 #[insV x vn vm] w fun e w' => ∃ v', e = .returned v' ∧ w'.ownsRow (w.heap.size + 2) 43 2 v' (checkL nameB x).length ((checkL nameB x).flatMap ftC) ∧ Below w.heap.size w w' := by
  have HX := Lib.hid hx
  have HNUM := Lib.hid (fun v l W h1 h2 h3 => Try.checkNumbers_calls (w.heap.size + 1) x vn vm v l W h1 hs h2 h3)
  have HTC := Lib.hid (fun f n b v l W => Try.tell_calls (w.heap.size + 1) f n b v l W)
  have HFEW := Lib.hid (fun W => (Try.has_hid (1, 400)).out (x.nodes.length : Int) W)
  have HMAT := Lib.hid (fun W h1 h2 h3 => Try.pmatrix_calls x vn vm W h1 h2 h3)
  have HND := Lib.hid (fun v i l W h1 h2 h3 h4 h5 h6 => Try.checkNode_calls (w.heap.size + 1) x vn vm v i l W h1 h2 h3 h4 h5 h6)
  have HBX : Hid (0 < x.nodes.length → ∀ b off cap n, vn = .slice (some ⟨b, off, none⟩) n cap → b < w.heap.size + 1) := fun h0 b off cap n e => by
    rcases hx.nodes with ⟨h1, _⟩ | ⟨b', off', cap', e', h1, h2, h3⟩
    · rw [h1] at h0; exact absurd h0 (by simp)
    · rw [e] at e'
      injection e' with e1 e2 e3
      injection e1 with e1
      injection e1 with e1 e4 e5
      have := h3.1
      omega
  have HLEN := Lib.hid (heads_len nameB x)
  obtain ⟨an, cn, rfl, _⟩ := hx.nodes.dat
  obtain ⟨am, cm, rfl, _⟩ := hx.matrix.dat
  rw [few_has] at HFEW
  have HCL : Hid (checkL nameB x = heads nameB x ++ if x.nodes.length < 1 ∨ 400 < x.nodes.length then [(7, 0)] else says (matrixB x) 8 0 ++ nodesF x x.nodes.length) := rfl
  have HLL := Lib.hid (nodesF_len x)
  obtain ⟨cl, hcl⟩ : ∃ cl, checkL nameB x = cl := ⟨_, rfl⟩
  rw [hcl] at HCL ⊢
  obtain ⟨L, hL⟩ : ∃ L, x.nodes.length = L := ⟨_, rfl⟩
  have S0 := Lib.hid (chkp_start w x (.slice an x.nodes.length cn) (.slice am x.matrix.length cm))
  have HNN := Lib.hid hn
  unfold insV tellV at *
  clear hx hs hcl hn
  rw [hL] at HX HNUM HFEW HMAT HND HBX HCL S0 HNN ⊢
  generalize x.matrix.length = M at *
  have HLe := Lib.hid hL
  clear hL
  obtain ⟨bf, hbf⟩ : ∃ b, (!(decide (L < 1 ∨ 400 < L))) = b := ⟨_, rfl⟩
  rw [hbf] at HFEW
  have HBF := Lib.hid hbf
  clear hbf
  generalize heads nameB x = hd at *
  generalize matrixB x = mb at *
  go_enter Try.func11, Try.ntmps11
  go_upto_region 3 with (fail)
  go_cut [9] from 7 to 37 (fun _ wx => ∃ v', ChkP w x (.slice an L cn) (.slice am M cm) wx v' hd)
  case first =>
    generalize hW : (w.alloc (.cells #[.string x.name, .int .i64 x.kind, .int .i64 x.metric, .int .i64 x.scale, .int .i64 x.cap, .int .i64 x.fleet, .slice an L cn, .slice am M cm] 25)).alloc (.cells #[.slice none 0 0] 28) = W at *
    have p0 : W.cell? ⟨w.heap.size, 0, none⟩ = some (.string x.name) := S0.out.p 0
    have p1 : W.cell? ⟨w.heap.size, 1, none⟩ = some (.int .i64 x.kind) := S0.out.p 1
    have p2 : W.cell? ⟨w.heap.size, 2, none⟩ = some (.int .i64 x.metric) := S0.out.p 2
    have p3 : W.cell? ⟨w.heap.size, 3, none⟩ = some (.int .i64 x.scale) := S0.out.p 3
    have p4 : W.cell? ⟨w.heap.size, 4, none⟩ = some (.int .i64 x.cap) := S0.out.p 4
    have p5 : W.cell? ⟨w.heap.size, 5, none⟩ = some (.int .i64 x.fleet) := S0.out.p 5
    have p6 : W.cell? ⟨w.heap.size, 6, none⟩ = some (.slice an L cn) := S0.out.p 6
    have p7 : W.cell? ⟨w.heap.size, 7, none⟩ = some (.slice am M cm) := S0.out.p 7
    clear hW
    go_wp2_with (fail)
    (with_reducible refine (HNUM.out _ [] _ (HX.out.next S0.out.below) S0.out.tell (by simp)).mono ?_)
    rintro e w1 ⟨rfl, v1, h1, t1⟩
    have S1 := Lib.hid (S0.out.step h1 t1)
    clear h1 t1 p0 p1 p2 p3 p4 p5 p6 p7
    go_wp2
    go_meet
    exact ⟨_, S1.out⟩
  case rest =>
  clear S0
  obtain ⟨v1, hS⟩ := hcut
  have S1 := Lib.hid hS
  have p6 : wc.cell? ⟨w.heap.size, 6, none⟩ = some (.slice an L cn) := hS.p 6
  clear hS
  go_wp2_with (fail)
  (with_reducible refine (HFEW.out _).mono ?_)
  rintro e w2 ⟨rfl, h2⟩
  have S2 := Lib.hid (S1.out.next h2)
  clear h2 p6 S1
  go_wp2_with (fail)
  refine (HTC.out 7 0 _ _ _ _ S2.out.tell (Nat.le_trans HLEN.out (by decide))).mono ?_
  rintro e w3 ⟨rfl, v3, h3, t3⟩
  have S3 := Lib.hid (S2.out.step h3 t3)
  clear h3 t3 S2
  by_cases hf : L < 1 ∨ 400 < L
  · have ef : bf = false := by rw [← HBF.out, decide_eq_true hf]; rfl
    have ecl := HCL.out
    rw [if_pos hf] at ecl
    subst ef
    have R : w3.ownsRow (w.heap.size + 2) 43 2 v3 cl.length (cl.flatMap ftC) := by rw [ecl]; exact S3.out.tell.row
    have q := S3.out.f
    obtain ⟨ao, c, rfl⟩ := owns_dat R
    have HR := Lib.hid R
    have HB := Lib.hid S3.out.below
    clear R ecl hf S3
    go_wp2
    go_ret
    exact ⟨_, rfl, HR.out, HB.out⟩
  · have ef : bf = true := by rw [← HBF.out, decide_eq_false hf]; rfl
    have ecl := HCL.out
    rw [if_neg hf] at ecl
    subst ef
    have HCLn := Lib.hid ecl
    have hL1 : 1 ≤ L := by omega
    have hL4 : L ≤ 400 := by omega
    have S4 := Lib.hid (show ChkP w x (.slice an L cn) (.slice am M cm) w3 v3 hd by have := S3.out; rwa [says_true, List.append_nil] at this)
    clear S3 hf ecl
    go_upto_region 8 with (fail)
    go_cut [9] from 7 to 37 (fun _ wx => ∃ v', ChkP w x (.slice an L cn) (.slice am M cm) wx v' (hd ++ says mb 8 0))
    case first =>
      have p0 : w3.cell? ⟨w.heap.size, 0, none⟩ = some (.string x.name) := S4.out.p 0
      have p1 : w3.cell? ⟨w.heap.size, 1, none⟩ = some (.int .i64 x.kind) := S4.out.p 1
      have p2 : w3.cell? ⟨w.heap.size, 2, none⟩ = some (.int .i64 x.metric) := S4.out.p 2
      have p3 : w3.cell? ⟨w.heap.size, 3, none⟩ = some (.int .i64 x.scale) := S4.out.p 3
      have p4 : w3.cell? ⟨w.heap.size, 4, none⟩ = some (.int .i64 x.cap) := S4.out.p 4
      have p5 : w3.cell? ⟨w.heap.size, 5, none⟩ = some (.int .i64 x.fleet) := S4.out.p 5
      have p6 : w3.cell? ⟨w.heap.size, 6, none⟩ = some (.slice an L cn) := S4.out.p 6
      have p7 : w3.cell? ⟨w.heap.size, 7, none⟩ = some (.slice am M cm) := S4.out.p 7
      go_wp2_with (fail)
      (with_reducible refine (HMAT.out _ (HX.out.next S4.out.below) hL4 hL1).mono ?_)
      rintro e w5 ⟨rfl, h5⟩
      have S5 := Lib.hid (S4.out.next h5)
      clear h5 S4 p0 p1 p2 p3 p4 p5 p6 p7
      go_wp2_with (fail)
      refine (HTC.out 8 0 _ _ _ _ S5.out.tell (Nat.le_trans HLEN.out (by decide))).mono ?_
      rintro e w6 ⟨rfl, v6, h6, t6⟩
      have S6 := Lib.hid (S5.out.step h6 t6)
      clear h6 t6 S5
      go_wp2
      go_meet
      exact ⟨_, S6.out⟩
    case rest =>
    clear S4
    obtain ⟨v7, hS⟩ := hcut
    obtain ⟨w7, rfl⟩ : ∃ W, W = wc := ⟨_, rfl⟩
    have S7 := Lib.hid hS
    have p6 : w7.cell? ⟨w.heap.size, 6, none⟩ = some (.slice an L cn) := hS.p 6
    clear hS
    go_wp2
    go_loopw [29] (fun i wr => ∃ (k : Nat) (v : Value), k ≤ L ∧ i = .int .i64 (k : Int) ∧ Hid (ChkP w x (.slice an L cn) (.slice am M cm) wr v (hd ++ says mb 8 0 ++ nodesF x k))) (fun i _ => L - (intOf i).toNat)
    case atStart => exact ⟨0, _, Nat.zero_le _, rfl, Lib.hid (by rw [show nodesF x 0 = [] from rfl, List.append_nil]; exact S7.out)⟩
    case round =>
      obtain ⟨k, v, hk, rfl, hS⟩ := hrel
      clear S7 p6
      by_cases hlt : k < L
      · have p0 : wr.cell? ⟨w.heap.size, 0, none⟩ = some (.string x.name) := hS.out.p 0
        have p1 : wr.cell? ⟨w.heap.size, 1, none⟩ = some (.int .i64 x.kind) := hS.out.p 1
        have p2 : wr.cell? ⟨w.heap.size, 2, none⟩ = some (.int .i64 x.metric) := hS.out.p 2
        have p3 : wr.cell? ⟨w.heap.size, 3, none⟩ = some (.int .i64 x.scale) := hS.out.p 3
        have p4 : wr.cell? ⟨w.heap.size, 4, none⟩ = some (.int .i64 x.cap) := hS.out.p 4
        have p5 : wr.cell? ⟨w.heap.size, 5, none⟩ = some (.int .i64 x.fleet) := hS.out.p 5
        have p6 : wr.cell? ⟨w.heap.size, 6, none⟩ = some (.slice an L cn) := hS.out.p 6
        have p7 : wr.cell? ⟨w.heap.size, 7, none⟩ = some (.slice am M cm) := hS.out.p 7
        have hki : (k : Int) < (L : Int) := by omega
        have hlen : (hd ++ says mb 8 0 ++ nodesF x k).length ≤ 100000 := by
          have h1 := says_len hd mb 8 0
          have h2 := HLL.out k
          have h3 := HLEN.out
          rw [List.length_append]; omega
        have HLN := Lib.hid hlen
        clear hlen
        go_wp2_with (fail)
        (with_reducible refine (HND.out _ k _ _ (HX.out.next hS.out.below) hlt hL4 (HBX.out (by omega)) hS.out.tell HLN.out).mono ?_)
        rintro e w8 ⟨rfl, v8, h8, t8⟩
        have S8 := Lib.hid (hS.out.step h8 t8)
        clear h8 t8 hS p0 p1 p2 p3 p4 p5 p6 p7
        go_wp2
        go_roundw
        case rel => exact ⟨k + 1, _, by omega, by go_num, Lib.hid (by rw [nodesF, ← List.append_assoc]; exact S8.out)⟩
        case measure => simp [intOf]; omega
      · obtain rfl : k = L := by omega
        have R : wr.ownsRow (w.heap.size + 2) 43 2 v cl.length (cl.flatMap ftC) := by rw [HCLn.out, ← List.append_assoc]; exact hS.out.tell.row
        have q := hS.out.f
        obtain ⟨ao, c, rfl⟩ := owns_dat R
        have HR := Lib.hid R
        have HB := Lib.hid hS.out.below
        clear R hS
        go_wp2
        go_ret
        exact ⟨_, rfl, HR.out, HB.out⟩
set_option maxRecDepth 100000 in
theorem Try.well_calls (x : Ins) (vn vm : Value) (w : World) (hx : HasIns w vn vm x) (hs : x.name.size ≤ 100) (hn : x.nodes.length ≤ 1000000) :
    Calls Try.prog 16 #[insV x vn vm] w fun e w' => e = .returned (.bool (wellB nameB x)) ∧ Below w.heap.size w w' := by
  have HC : Hid (∀ W, HasIns W vn vm x → Calls Try.prog 11 #[.agg #[.string x.name, .int .i64 x.kind, .int .i64 x.metric, .int .i64 x.scale, .int .i64 x.cap, .int .i64 x.fleet, vn, vm]] W fun e w' => ∃ v', e = .returned v' ∧ w'.ownsRow (W.heap.size + 2) 43 2 v' (checkL nameB x).length ((checkL nameB x).flatMap ftC) ∧ Below W.heap.size W w') := fun W h => Try.check_calls x vn vm W h hs hn
  rw [well_len]
  have HX := Lib.hid hx
  obtain ⟨an, cn, rfl, _⟩ := hx.nodes.dat
  obtain ⟨am, cm, rfl, _⟩ := hx.matrix.dat
  unfold insV
  clear hx hn
  generalize (checkL nameB x).length = n at HC ⊢
  generalize x.nodes.length = L at *
  generalize x.matrix.length = M at *
  go_enter Try.func16, Try.ntmps16
  go_wp2_with (go_at_call 11; (with_reducible refine (HC.out _ (HX.out.next (below_box _ _))).mono ?_); rintro e w1 ⟨v', rfl, hr, hb1⟩; obtain ⟨ao, c, rfl⟩ := owns_dat hr)
  go_ret
  exact ⟨cret_is (nat_beq (b := 0) _ rfl), (below_box _ _).trans (hb1.mono (below_box _ _).size)⟩
end Go.Proofs
