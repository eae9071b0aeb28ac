/- The program's Check and Well. Conditions: a name of 100 bytes at most, a million nodes at most. -/
import Derived.Test.YtebkmcafahkdbaaG14
import Derived.Test.YtebkmcafahkdbaaG08
namespace Go.Canon
theorem nodesF_len (x : Ins) (n : Nat) : (nodesF x n).length ≤ 5 * n := by
  induction n with
  | zero => exact Nat.le_refl _
  | succ n ih =>
    have h := (nodeF_in x n).length_le
    rw [nodesF, List.length_append]
    simp at h
    omega
theorem heads_len (N : ByteArray → Bool) (x : Ins) : (heads N x).length ≤ 6 := (heads_in N x).length_le
theorem few_has (n : Nat) : has (1, 400) (n : Int) = !(decide (n < 1 ∨ 400 < n)) := by
  unfold has
  rw [Bool.eq_iff_iff]; simp; omega
end Go.Canon
namespace Go.Proofs
open Go.RowKit Go.Shelf Go.Canon
attribute [local go_sem] Oper.semAt_some

/-- What stands in the middle of Check. -/
structure ChkP (w : World) (x : Ins) (vn vm : Value) (W : World) (v : Value) (l : List (Nat × Nat)) : Prop where
  pb : W.heap[w.heap.size]? = some (.cells #[.string x.name, .int .i64 x.kind, .int .i64 x.metric, .int .i64 x.scale, .int .i64 x.cap, .int .i64 x.fleet, vn, vm] 25)
  tell : TellS (w.heap.size + 1) W v l
  below : Below w.heap.size w W
theorem ChkP.step {w W W' : World} {x : Ins} {vn vm v v' : Value} {l l' : List (Nat × Nat)} (h : ChkP w x vn vm W v l) (h1 : TellS (w.heap.size + 1) W' v' l') (h2 : Told (w.heap.size + 1) W W') : ChkP w x vn vm W' v' l' :=
  ⟨h2.keep _ _ _ h.pb (by decide) (by decide), h1, h.below.trans (h2.below.mono (Nat.le_succ _))⟩
theorem ChkP.next {w W W' : World} {x : Ins} {vn vm v : Value} {l : List (Nat × Nat)} (h : ChkP w x vn vm W v l) (hb : Below W.heap.size W W') : ChkP w x vn vm W' v l :=
  h.step (h.tell.next hb) (Told.of hb (by have := h.tell.sz; omega))
theorem ChkP.p {w W : World} {x : Ins} {vn vm v : Value} {l : List (Nat × Nat)} (h : ChkP w x vn vm W v l) (j : Nat) : W.cell? ⟨w.heap.size, j, none⟩ = (#[Value.string x.name, .int .i64 x.kind, .int .i64 x.metric, .int .i64 x.scale, .int .i64 x.cap, .int .i64 x.fleet, vn, vm] : Array Value)[j]? := by
  unfold World.cell?; rw [h.pb]; rfl
theorem ChkP.f {w W : World} {x : Ins} {vn vm v : Value} {l : List (Nat × Nat)} (h : ChkP w x vn vm W v l) : W.cell? ⟨w.heap.size + 1, 0, none⟩ = some v := by
  unfold World.cell?; rw [h.tell.cb]; rfl
theorem chkp_start (w : World) (x : Ins) (vn vm : Value) : ChkP w x vn vm ((w.alloc (.cells #[.string x.name, .int .i64 x.kind, .int .i64 x.metric, .int .i64 x.scale, .int .i64 x.cap, .int .i64 x.fleet, vn, vm] 25)).alloc (.cells #[.slice none 0 0] 63)) (.slice none 0 0) [] := by
  have hs : (w.alloc (.cells #[.string x.name, .int .i64 x.kind, .int .i64 x.metric, .int .i64 x.scale, .int .i64 x.cap, .int .i64 x.fleet, vn, vm] 25)).heap.size = w.heap.size + 1 := by show (w.heap.push _).size = _; simp
  have h2 := World.alloc_heap_new (w.alloc (.cells #[.string x.name, .int .i64 x.kind, .int .i64 x.metric, .int .i64 x.scale, .int .i64 x.cap, .int .i64 x.fleet, vn, vm] 25)) (.cells #[.slice none 0 0] 63)
  rw [hs] at h2
  exact ⟨((below_box _ _).block _ (by rw [hs]; omega)).trans (World.alloc_heap_new w _), ⟨⟨rfl, .inl ⟨rfl, rfl⟩⟩, h2, by show _ ≤ (Array.push _ _).size; rw [Array.size_push, hs]; omega⟩, below_two _ _ _⟩
set_option maxRecDepth 100000 in
set_option maxHeartbeats 4000000 in
theorem Try.check_calls (x : Ins) (vn vm : Value) (w : World) (hx : HasIns w vn vm x) (hs : x.name.size ≤ 100) (hn : x.nodes.length ≤ 1000000) :
    Calls Try.prog 57 #[insV x vn vm] w fun e w' => ∃ v', e = .returned v' ∧ w'.ownsRow (w.heap.size + 2) 66 2 v' (checkL nameB x).length ((checkL nameB x).flatMap ftC) ∧ Below w.heap.size w w' := by
  have HX := Lib.hid hx
  have HNUM := Lib.hid (fun v l W h1 h2 h3 => Try.checkNumbers_calls (w.heap.size + 1) x vn vm v l W h1 hs h2 h3)
  have HTC := Lib.hid (fun f n b v l W => Try.tell_calls (w.heap.size + 1) f n b v l W)
  have HFEW := Lib.hid (fun W => (Try.has_hid (1, 400)).out (x.nodes.length : Int) W)
  have HMAT := Lib.hid (fun W h1 h2 h3 => Try.pmatrix_calls x vn vm W h1 h2 h3)
  have HND := Lib.hid (fun v i l W h1 h2 h3 h4 h5 h6 => Try.checkNode_calls (w.heap.size + 1) x vn vm v i l W h1 h2 h3 h4 h5 h6)
  have HBX : Hid (0 < x.nodes.length → ∀ b off cap n, vn = .slice (some ⟨b, off, none⟩) n cap → b < w.heap.size + 1) := fun h0 b off cap n e => by
    rcases hx.nodes with ⟨h1, _⟩ | ⟨b', off', cap', e', h1, h2, h3⟩
    · rw [h1] at h0; exact absurd h0 (by simp)
    · rw [e] at e'
      injection e' with e1 e2 e3
      injection e1 with e1
      injection e1 with e1 e4 e5
      have := h3.1
      omega
  have HLEN := Lib.hid (heads_len nameB x)
  obtain ⟨an, cn, rfl, _⟩ := hx.nodes.dat
  obtain ⟨am, cm, rfl, _⟩ := hx.matrix.dat
  rw [few_has] at HFEW
  have HCL : Hid (checkL nameB x = heads nameB x ++ if x.nodes.length < 1 ∨ 400 < x.nodes.length then [(7, 0)] else says (matrixB x) 8 0 ++ nodesF x x.nodes.length) := rfl
  have HLL := Lib.hid (nodesF_len x)
  obtain ⟨cl, hcl⟩ : ∃ cl, checkL nameB x = cl := ⟨_, rfl⟩
  rw [hcl] at HCL ⊢
  obtain ⟨L, hL⟩ : ∃ L, x.nodes.length = L := ⟨_, rfl⟩
  have S0 := Lib.hid (chkp_start w x (.slice an x.nodes.length cn) (.slice am x.matrix.length cm))
  have HNN := Lib.hid hn
  unfold insV tellV at *
  clear hx hs hcl hn
  rw [hL] at HX HNUM HFEW HMAT HND HBX HCL S0 HNN ⊢
  generalize x.matrix.length = M at *
  have HLe := Lib.hid hL
  clear hL
  obtain ⟨bf, hbf⟩ : ∃ b, (!(decide (L < 1 ∨ 400 < L))) = b := ⟨_, rfl⟩
  rw [hbf] at HFEW
  have HBF := Lib.hid hbf
  clear hbf
  generalize heads nameB x = hd at *
  generalize matrixB x = mb at *
  go_enter Try.func57, Try.ntmps57
  go_upto_region 3 with (fail)
  go_cut [9] from 7 to 37 (fun _ wx => ∃ v', ChkP w x (.slice an L cn) (.slice am M cm) wx v' hd)
  case first =>
    generalize hW : (w.alloc (.cells #[.string x.name, .int .i64 x.kind, .int .i64 x.metric, .int .i64 x.scale, .int .i64 x.cap, .int .i64 x.fleet, .slice an L cn, .slice am M cm] 25)).alloc (.cells #[.slice none 0 0] 63) = W at *
    have p0 : W.cell? ⟨w.heap.size, 0, none⟩ = some (.string x.name) := S0.out.p 0
    have p1 : W.cell? ⟨w.heap.size, 1, none⟩ = some (.int .i64 x.kind) := S0.out.p 1
    have p2 : W.cell? ⟨w.heap.size, 2, none⟩ = some (.int .i64 x.metric) := S0.out.p 2
    have p3 : W.cell? ⟨w.heap.size, 3, none⟩ = some (.int .i64 x.scale) := S0.out.p 3
    have p4 : W.cell? ⟨w.heap.size, 4, none⟩ = some (.int .i64 x.cap) := S0.out.p 4
    have p5 : W.cell? ⟨w.heap.size, 5, none⟩ = some (.int .i64 x.fleet) := S0.out.p 5
    have p6 : W.cell? ⟨w.heap.size, 6, none⟩ = some (.slice an L cn) := S0.out.p 6
    have p7 : W.cell? ⟨w.heap.size, 7, none⟩ = some (.slice am M cm) := S0.out.p 7
    clear hW
    go_wp2_with (fail)
    (with_reducible refine (HNUM.out _ [] _ (HX.out.next S0.out.below) S0.out.tell (by simp)).mono ?_)
    rintro e w1 ⟨rfl, v1, h1, t1⟩
    have S1 := Lib.hid (S0.out.step h1 t1)
    clear h1 t1 p0 p1 p2 p3 p4 p5 p6 p7
    go_wp2
    go_meet
    exact ⟨_, S1.out⟩
  case rest =>
  clear S0
  obtain ⟨v1, hS⟩ := hcut
  have S1 := Lib.hid hS
  have p6 : wc.cell? ⟨w.heap.size, 6, none⟩ = some (.slice an L cn) := hS.p 6
  clear hS
  go_wp2_with (fail)
  (with_reducible refine (HFEW.out _).mono ?_)
  rintro e w2 ⟨rfl, h2⟩
  have S2 := Lib.hid (S1.out.next h2)
  clear h2 p6 S1
  go_wp2_with (fail)
  refine (HTC.out 7 0 _ _ _ _ S2.out.tell (Nat.le_trans HLEN.out (by decide))).mono ?_
  rintro e w3 ⟨rfl, v3, h3, t3⟩
  have S3 := Lib.hid (S2.out.step h3 t3)
  clear h3 t3 S2
  by_cases hf : L < 1 ∨ 400 < L
  · have ef : bf = false := by rw [← HBF.out, decide_eq_true hf]; rfl
    have ecl := HCL.out
    rw [if_pos hf] at ecl
    subst ef
    have R : w3.ownsRow (w.heap.size + 2) 66 2 v3 cl.length (cl.flatMap ftC) := by rw [ecl]; exact S3.out.tell.row
    have q := S3.out.f
    obtain ⟨ao, c, rfl⟩ := owns_dat R
    have HR := Lib.hid R
    have HB := Lib.hid S3.out.below
    clear R ecl hf S3
    go_wp2
    go_ret
    exact ⟨_, rfl, HR.out, HB.out⟩
  · have ef : bf = true := by rw [← HBF.out, decide_eq_false hf]; rfl
    have ecl := HCL.out
    rw [if_neg hf] at ecl
    subst ef
    have HCLn := Lib.hid ecl
    have hL1 : 1 ≤ L := by omega
    have hL4 : L ≤ 400 := by omega
    have S4 := Lib.hid (show ChkP w x (.slice an L cn) (.slice am M cm) w3 v3 hd by have := S3.out; rwa [says_true, List.append_nil] at this)
    clear S3 hf ecl
    go_upto_region 8 with (fail)
    go_cut [9] from 7 to 37 (fun _ wx => ∃ v', ChkP w x (.slice an L cn) (.slice am M cm) wx v' (hd ++ says mb 8 0))
    case first =>
      have p0 : w3.cell? ⟨w.heap.size, 0, none⟩ = some (.string x.name) := S4.out.p 0
      have p1 : w3.cell? ⟨w.heap.size, 1, none⟩ = some (.int .i64 x.kind) := S4.out.p 1
      have p2 : w3.cell? ⟨w.heap.size, 2, none⟩ = some (.int .i64 x.metric) := S4.out.p 2
      have p3 : w3.cell? ⟨w.heap.size, 3, none⟩ = some (.int .i64 x.scale) := S4.out.p 3
      have p4 : w3.cell? ⟨w.heap.size, 4, none⟩ = some (.int .i64 x.cap) := S4.out.p 4
      have p5 : w3.cell? ⟨w.heap.size, 5, none⟩ = some (.int .i64 x.fleet) := S4.out.p 5
      have p6 : w3.cell? ⟨w.heap.size, 6, none⟩ = some (.slice an L cn) := S4.out.p 6
      have p7 : w3.cell? ⟨w.heap.size, 7, none⟩ = some (.slice am M cm) := S4.out.p 7
      go_wp2_with (fail)
      (with_reducible refine (HMAT.out _ (HX.out.next S4.out.below) hL4 hL1).mono ?_)
      rintro e w5 ⟨rfl, h5⟩
      have S5 := Lib.hid (S4.out.next h5)
      clear h5 S4 p0 p1 p2 p3 p4 p5 p6 p7
      go_wp2_with (fail)
      refine (HTC.out 8 0 _ _ _ _ S5.out.tell (Nat.le_trans HLEN.out (by decide))).mono ?_
      rintro e w6 ⟨rfl, v6, h6, t6⟩
      have S6 := Lib.hid (S5.out.step h6 t6)
      clear h6 t6 S5
      go_wp2
      go_meet
      exact ⟨_, S6.out⟩
    case rest =>
    clear S4
    obtain ⟨v7, hS⟩ := hcut
    obtain ⟨w7, rfl⟩ : ∃ W, W = wc := ⟨_, rfl⟩
    have S7 := Lib.hid hS
    have p6 : w7.cell? ⟨w.heap.size, 6, none⟩ = some (.slice an L cn) := hS.p 6
    clear hS
    go_wp2
    go_loopw [29] (fun i wr => ∃ (k : Nat) (v : Value), k ≤ L ∧ i = .int .i64 (k : Int) ∧ Hid (ChkP w x (.slice an L cn) (.slice am M cm) wr v (hd ++ says mb 8 0 ++ nodesF x k))) (fun i _ => L - (intOf i).toNat)
    case atStart => exact ⟨0, _, Nat.zero_le _, rfl, Lib.hid (by rw [show nodesF x 0 = [] from rfl, List.append_nil]; exact S7.out)⟩
    case round =>
      obtain ⟨k, v, hk, rfl, hS⟩ := hrel
      clear S7 p6
      by_cases hlt : k < L
      · have p0 : wr.cell? ⟨w.heap.size, 0, none⟩ = some (.string x.name) := hS.out.p 0
        have p1 : wr.cell? ⟨w.heap.size, 1, none⟩ = some (.int .i64 x.kind) := hS.out.p 1
        have p2 : wr.cell? ⟨w.heap.size, 2, none⟩ = some (.int .i64 x.metric) := hS.out.p 2
        have p3 : wr.cell? ⟨w.heap.size, 3, none⟩ = some (.int .i64 x.scale) := hS.out.p 3
        have p4 : wr.cell? ⟨w.heap.size, 4, none⟩ = some (.int .i64 x.cap) := hS.out.p 4
        have p5 : wr.cell? ⟨w.heap.size, 5, none⟩ = some (.int .i64 x.fleet) := hS.out.p 5
        have p6 : wr.cell? ⟨w.heap.size, 6, none⟩ = some (.slice an L cn) := hS.out.p 6
        have p7 : wr.cell? ⟨w.heap.size, 7, none⟩ = some (.slice am M cm) := hS.out.p 7
        have hki : (k : Int) < (L : Int) := by omega
        have hlen : (hd ++ says mb 8 0 ++ nodesF x k).length ≤ 100000 := by
          have h1 := says_len hd mb 8 0
          have h2 := HLL.out k
          have h3 := HLEN.out
          rw [List.length_append]; omega
        have HLN := Lib.hid hlen
        clear hlen
        go_wp2_with (fail)
        (with_reducible refine (HND.out _ k _ _ (HX.out.next hS.out.below) hlt hL4 (HBX.out (by omega)) hS.out.tell HLN.out).mono ?_)
        rintro e w8 ⟨rfl, v8, h8, t8⟩
        have S8 := Lib.hid (hS.out.step h8 t8)
        clear h8 t8 hS p0 p1 p2 p3 p4 p5 p6 p7
        go_wp2
        go_roundw
        case rel => exact ⟨k + 1, _, by omega, by go_num, Lib.hid (by rw [nodesF, ← List.append_assoc]; exact S8.out)⟩
        case measure => simp [intOf]; omega
      · obtain rfl : k = L := by omega
        have R : wr.ownsRow (w.heap.size + 2) 66 2 v cl.length (cl.flatMap ftC) := by rw [HCLn.out, ← List.append_assoc]; exact hS.out.tell.row
        have q := hS.out.f
        obtain ⟨ao, c, rfl⟩ := owns_dat R
        have HR := Lib.hid R
        have HB := Lib.hid hS.out.below
        clear R hS
        go_wp2
        go_ret
        exact ⟨_, rfl, HR.out, HB.out⟩
end Go.Proofs
/- slices.Contains over faults, express.known. Conditions: none. -/
namespace Go.Canon
theorem says_mem {b : Bool} {f n : Nat} {p : Nat × Nat} : p ∈ says b f n ↔ b = false ∧ p = (f, n) := by
  unfold says
  cases b <;> simp
theorem known_mem (N : ByteArray → Bool) (m : Int) (s : ByteArray) : (3, 0) ∈ checkL N ⟨s, 0, m, 0, 0, 0, [], []⟩ ↔ metricB m = false := by
  simp [checkL, heads, says_mem]
end Go.Canon
namespace Go.Proofs
open Go.RowKit Go.Shelf Go.Canon Go.Expr
attribute [local go_sem] Oper.semAt_some
/-- Where the first fault of the metric is, or -1. -/
def idxF (l : List (Nat × Nat)) : Int := if (3, 0) ∈ l then ((l.findIdx (· == (3, 0)) : Nat) : Int) else -1
theorem idxF_mem (l : List (Nat × Nat)) : decide (0 ≤ idxF l) = decide ((3, 0) ∈ l) := by
  unfold idxF
  by_cases h : (3, 0) ∈ l <;> simp [h]
theorem idxF_at {l : List (Nat × Nat)} {k : Nat} (h : l[k]? = some (3, 0)) (ha : (3, 0) ∉ l.take k) : idxF l = (k : Int) := by
  have hk : k < l.length := (List.getElem?_eq_some_iff.1 h).1
  have hd : l[k] = (3, 0) := (List.getElem?_eq_some_iff.1 h).2
  have hf : l.findIdx (· == (3, 0)) = k := by
    rw [List.findIdx_eq hk]
    refine ⟨by rw [hd]; rfl, fun j hj => ?_⟩
    rw [beq_eq_false_iff_ne]
    exact fun e => ha (by rw [List.mem_take_iff_getElem]; exact ⟨j, by omega, e⟩)
  unfold idxF
  rw [if_pos (by rw [← hd]; exact List.getElem_mem hk), hf]
theorem notmem_take {l : List (Nat × Nat)} {k : Nat} {p : Nat × Nat} (h : l[k]? = some p) (ha : (3, 0) ∉ l.take k) (hp : p ≠ (3, 0)) : (3, 0) ∉ l.take (k + 1) := by
  rw [List.take_add_one, h, List.mem_append]
  rintro (h1 | h1)
  · exact ha h1
  · exact hp (by simp at h1; exact h1.symm)
theorem xcellk (W : World) (cs : Array Value) (t : TypeId) (j : Nat) : (W.alloc (.cells cs t)).cell? ⟨W.heap.size, j, none⟩ = cs[j]? := by
  unfold World.cell?
  rw [World.alloc_heap_new]
  rfl
/-- The box of the fault that is sought, and the block that stands. -/
structure IfS (w : World) (W : World) : Prop where
  c0 : W.cell? ⟨w.heap.size, 0, none⟩ = some (.int .i64 3)
  c1 : W.cell? ⟨w.heap.size, 1, none⟩ = some (.int .i64 0)
  below : Below w.heap.size w W
theorem ifS_new (w : World) : IfS w (w.alloc (.cells #[.int .i64 3, .int .i64 0] 66)) :=
  ⟨xcellk w _ _ 0, xcellk w _ _ 1, fbelow_box _ _⟩
set_option maxRecDepth 100000 in
set_option maxHeartbeats 1000000 in
theorem Try.Index_faults (a : Option Addr) (l : List (Nat × Nat)) (c : Nat) (w : World) (hl : l.length ≤ 2000000) (hn : l = [] ∨ ∃ b off, a = some ⟨b, off, none⟩ ∧ FtAt w b off l) :
    Calls Try.prog 69 #[.slice a l.length c, .agg #[.int .i64 3, .int .i64 0]] w fun e w' => e = .returned (.int .i64 (idxF l)) ∧ Below w.heap.size w w' := by
  have HN := Lib.hid hn
  have HI : Hid (∀ k, l[k]? = some (3, 0) → (3, 0) ∉ l.take k → idxF l = (k : Int)) := fun k => idxF_at
  have HA : Hid (∀ k p, l[k]? = some p → (3, 0) ∉ l.take k → p ≠ (3, 0) → (3, 0) ∉ l.take (k + 1)) := fun k p => notmem_take
  have HZ : Hid ((3, 0) ∉ l.take l.length → idxF l = -1) := fun h => by rw [List.take_length] at h; unfold idxF; rw [if_neg h]
  obtain ⟨n, hnn⟩ : ∃ n, l.length = n := ⟨_, rfl⟩
  have HNN := Lib.hid hnn
  rw [hnn] at hl HZ ⊢
  have HS0 := Lib.hid (ifS_new w)
  clear hn hnn
  go_enter Try.func69, Try.ntmps69
  go_wp2
  go_loopw [8] (fun i wr => ∃ k : Nat, k ≤ n ∧ i = .int .i64 (k : Int) ∧ Hid ((3, 0) ∉ l.take k) ∧ IfS w wr) (fun i _ => n - (intOf i).toNat)
  case atStart => exact ⟨0, Nat.zero_le _, rfl, Lib.hid (by simp), HS0.out⟩
  case round =>
    obtain ⟨k, hk, rfl, hT, hS⟩ := hrel
    have HS := Lib.hid hS
    obtain ⟨x0, x1, hB⟩ := hS
    have HB := Lib.hid hB
    clear hB HS0
    by_cases hlt : k < n
    · obtain ⟨b, off, rfl, hat⟩ : ∃ b off, a = some ⟨b, off, none⟩ ∧ FtAt w b off l := by
        rcases HN.out with h0 | h
        · have := HNN.out; rw [h0] at this; simp at this; omega
        · exact h
      obtain ⟨p, hd⟩ : ∃ p, l[k]? = some p := ⟨_, List.getElem?_eq_getElem (by have := HNN.out; omega)⟩
      have c0 := (HB.out.cell (p := ⟨b, off + k * 2, none⟩) hat.1).trans (hat.2 k p hd).1
      have c1 := (HB.out.cell (p := ⟨b, off + k * 2 + 1, none⟩) hat.1).trans (hat.2 k p hd).2
      have hki : (k : Int) < (n : Int) := by omega
      clear hat
      obtain ⟨f, m⟩ := p
      by_cases h1 : f = 3
      · subst h1
        by_cases h2 : m = 0
        · subst h2
          have HE := Lib.hid (HI.out k hd hT.out)
          clear hd
          go_wp2
          go_quiet (fail)
          go_wp2
          go_ret
          rw [HE.out]
          exact ⟨rfl, lbelow_drewN HB.out _⟩
        · have d : ((0 : Int) == (m : Int)) = false := beq_false_of_ne (by omega)
          have HE := Lib.hid (HA.out k _ hd hT.out (fun e => h2 (congrArg Prod.snd e)))
          clear hd h2
          go_wp2
          go_quiet (fail)
          go_wp2
          go_roundw
          case rel => exact ⟨k + 1, by omega, by go_num, HE, x0, x1, lbelow_drewN HB.out _⟩
          case measure => simp [intOf]; omega
      · have d : ((3 : Int) == (f : Int)) = false := beq_false_of_ne (by omega)
        have HE := Lib.hid (HA.out k _ hd hT.out (fun e => h1 (congrArg Prod.fst e)))
        clear hd h1
        go_wp2
        go_quiet (fail)
        go_wp2
        go_roundw
        case rel => exact ⟨k + 1, by omega, by go_num, HE, x0, x1, lbelow_drewN HB.out _⟩
        case measure => simp [intOf]; omega
    · obtain rfl : k = n := by omega
      have HE := Lib.hid (HZ.out hT.out)
      clear hlt hk
      go_wp2
      go_ret
      rw [HE.out]
      exact ⟨rfl, HB.out⟩
set_option maxRecDepth 100000 in
theorem Try.Contains_faults (a : Option Addr) (l : List (Nat × Nat)) (c : Nat) (w : World) (hl : l.length ≤ 2000000) (hn : l = [] ∨ ∃ b off, a = some ⟨b, off, none⟩ ∧ FtAt w b off l) :
    Calls Try.prog 58 #[.slice a l.length c, .agg #[.int .i64 3, .int .i64 0]] w fun e w' => e = .returned (.bool (decide ((3, 0) ∈ l))) ∧ Below w.heap.size w w' := by
  have k1 : Below w.heap.size w (w.alloc (.cells #[.int .i64 3, .int .i64 0] 66)) := fbelow_box _ _
  have HC := Lib.hid (Try.Index_faults a l c _ hl (hn.imp id fun ⟨b, off, h1, h2⟩ => ⟨b, off, h1, h2.next k1⟩))
  have HB := Lib.hid k1
  rw [← idxF_mem]
  generalize l.length = n at *
  generalize idxF l = z at *
  clear hn hl k1
  by_cases hz : 0 ≤ z
  · go_enter Try.func58, Try.ntmps58
    go_wp2_with (go_at_call 69; (with_reducible refine HC.out.mono ?_); rintro e w1 ⟨rfl, hb1⟩)
    go_ret
    exact ⟨cret_is (by simp [hz]), HB.out.trans (hb1.mono HB.out.size)⟩
  · go_enter Try.func58, Try.ntmps58
    go_wp2_with (go_at_call 69; (with_reducible refine HC.out.mono ?_); rintro e w1 ⟨rfl, hb1⟩)
    go_ret
    exact ⟨cret_is (by simp), HB.out.trans (hb1.mono HB.out.size)⟩
set_option maxRecDepth 100000 in
theorem Try.known_calls (m : Int) (w : World) :
    Calls Try.prog 35 #[.int .i64 m] w fun e w' => e = .returned (.bool (metricB m)) ∧ Below w.heap.size w w' := by
  have HI : HasIns w (.slice none 0 0) (.slice none 0 0) ⟨⟨#[]⟩, 0, m, 0, 0, 0, [], []⟩ := ⟨.inl ⟨rfl, none, 0, rfl⟩, .inl ⟨rfl, none, 0, rfl⟩⟩
  have HC := Lib.hid (Try.check_calls _ _ _ w HI (Nat.zero_le _) (Nat.zero_le _))
  have HM : Hid (metricB m = !decide ((3, 0) ∈ checkL nameB ⟨⟨#[]⟩, 0, m, 0, 0, 0, [], []⟩)) := by
    unfold Hid
    have := known_mem nameB m ⟨#[]⟩
    cases h : metricB m <;> simp [this, h]
  have HL : Hid ((checkL nameB ⟨⟨#[]⟩, 0, m, 0, 0, 0, [], []⟩).length ≤ 2000000) := by
    have h0 : ∀ b f n, (says b f n).length ≤ 1 := fun b f n => by unfold says; split <;> simp
    unfold Hid checkL heads
    rw [if_pos (.inl Nat.zero_lt_one)]
    simp only [List.length_append, List.length_cons, List.length_nil]
    have e1 := h0 (nameB ⟨#[]⟩) 1 0
    have e2 := h0 (kindB 0) 2 0
    have e3 := h0 (metricB m) 3 0
    have e4 := h0 (scaleB m 0) 4 0
    have e5 := h0 (capB 0 0) 5 0
    have e6 := h0 (fleetB 0 0) 6 0
    omega
  unfold insV at HC
  generalize checkL nameB ⟨⟨#[]⟩, 0, m, 0, 0, 0, [], []⟩ = l at *
  clear HI
  have HCF := Lib.hid fun a c W => Try.Contains_faults a l c W HL.out
  cases hz : decide ((3, 0) ∈ l) <;> simp only [hz] at HCF HM
  all_goals
    clear hz
    go_enter Try.func35, Try.ntmps35
    go_wp2_with (first
      | (go_at_call 57; (with_reducible refine HC.out.mono ?_); rintro e w1 ⟨v1, rfl, hv1, hb1⟩; obtain ⟨a, c, rfl, hd⟩ := (fts_of_owns hv1).dat; have HF := Lib.hid (HCF.out a c w1 hd); have HB1 := Lib.hid hb1; clear hd hv1 hb1)
      | (go_at_call 58; (with_reducible refine HF.out.mono ?_); rintro e w2 ⟨rfl, hb2⟩))
    go_ret
    exact ⟨cret_is (by rw [HM.out]; rfl), HB1.out.trans (hb2.mono HB1.out.size)⟩
theorem Try.fit_keyword (x : Ins) (vn vm : Value) (w : World) : FitC x vn vm 34 #[] (decide (x.metric ≠ 6) && metricB x.metric) w := by
  intro W hW
  clear hW
  have HK := Lib.hid fun V => Try.known_calls x.metric V
  have HB := Lib.hid (fbelow_box W (.cells #[.string x.name, .int .i64 x.kind, .int .i64 x.metric, .int .i64 x.scale, .int .i64 x.cap, .int .i64 x.fleet, vn, vm] 25))
  unfold insV
  by_cases h : x.metric = 6
  · have k : (x.metric != (6 : Int)) = false := by rw [h]; rfl
    have E : Hid ((decide (x.metric ≠ 6) && metricB x.metric) = false) := by unfold Hid; simp [h]
    clear h
    generalize (decide (x.metric ≠ 6) && metricB x.metric) = q at *
    go_enter Try.func34, Try.ntmps34
    go_wp2
    go_ret
    exact ⟨cret_is E.out.symm, HB.out⟩
  · have k : (x.metric != (6 : Int)) = true := bne_iff_ne.2 h
    have E : Hid ((decide (x.metric ≠ 6) && metricB x.metric) = metricB x.metric) := by unfold Hid; simp [h]
    rw [E.out]
    clear h E
    generalize metricB x.metric = q at *
    cases q
    all_goals
      go_enter Try.func34, Try.ntmps34
      go_wp2_with (go_at_call 35; (with_reducible refine (HK.out _).mono ?_); rintro e w2 ⟨rfl, hb2⟩)
      go_ret
      exact ⟨rfl, HB.out.trans (hb2.mono HB.out.size)⟩
theorem Try.enters_keyword : ∀ args w, (callFunc 34 args).run Try.prog w = .ok (.enter 34 args) w := enters_of Try.func34 (by kernel_rfl) rfl
end Go.Proofs
/- Looks at a field that every node has: slices.IndexFunc and ContainsFunc over nodes, each. Conditions: a million nodes at most. -/
namespace Go.Proofs
open Go.RowKit Go.Shelf Go.Canon Go.Expr
attribute [local go_sem] Oper.semAt_some
/-- Where the first node is that p holds of, or -1. -/
def idxP (p : Nd → Bool) (l : List Nd) : Int := if l.any p = true then ((l.findIdx p : Nat) : Int) else -1
theorem idxP_any (p : Nd → Bool) (l : List Nd) : decide (0 ≤ idxP p l) = l.any p := by
  unfold idxP
  cases h : l.any p <;> simp
theorem idxP_at {p : Nd → Bool} {l : List Nd} {k : Nat} {d : Nd} (h : l[k]? = some d) (ha : (l.take k).any p = false) (hp : p d = true) : idxP p l = (k : Int) := by
  have hk : k < l.length := (List.getElem?_eq_some_iff.1 h).1
  have hd : l[k] = d := (List.getElem?_eq_some_iff.1 h).2
  have hf : l.findIdx p = k := by
    rw [List.findIdx_eq hk]
    refine ⟨by rw [hd]; exact hp, fun j hj => ?_⟩
    rw [List.any_eq_false] at ha
    have := ha l[j] (by rw [List.mem_take_iff_getElem]; exact ⟨j, by omega, rfl⟩)
    simpa using this
  have ha' : l.any p = true := List.any_eq_true.2 ⟨d, by rw [← hd]; exact List.getElem_mem hk, hp⟩
  unfold idxP
  rw [if_pos ha', hf]
theorem any_take {p : Nd → Bool} {l : List Nd} {k : Nat} {d : Nd} (h : l[k]? = some d) : (l.take (k + 1)).any p = ((l.take k).any p || p d) := by
  rw [List.take_add_one, h, List.any_append]; simp

set_option maxRecDepth 100000 in
set_option maxHeartbeats 1000000 in
theorem Try.IndexFunc_nodes {v : Value} {p : Nd → Bool} (a : Option Addr) (l : List Nd) (c : Nat) (w : World) (hl : l.length ≤ 1000000) (hn : l = [] ∨ ∃ b off, a = some ⟨b, off, none⟩ ∧ NodesAt w b off l) (hv : IsNode v p w) :
    Calls Try.prog 70 #[.slice a l.length c, v] w fun e w' => e = .returned (.int .i64 (idxP p l)) ∧ Below w.heap.size w w' := by
  obtain ⟨g, lb, rfl, eg, hcl⟩ := hv
  have HCL := Lib.hid hcl
  have HN := Lib.hid hn
  have HI : Hid (∀ k d, l[k]? = some d → (l.take k).any p = false → p d = true → idxP p l = (k : Int)) := fun k d => idxP_at
  have HA : Hid (∀ k d, l[k]? = some d → (l.take (k + 1)).any p = ((l.take k).any p || p d)) := fun k d => any_take
  have HZ : Hid ((l.take l.length).any p = false → idxP p l = -1) := fun h => by rw [List.take_length] at h; unfold idxP; rw [h]; rfl
  obtain ⟨n, hnn⟩ : ∃ n, l.length = n := ⟨_, rfl⟩
  have HNN := Lib.hid hnn
  rw [hnn] at hl HZ ⊢
  clear hcl hn hnn
  go_enter Try.func70, Try.ntmps70
  go_wp2
  go_loopw [8] (fun i wr => ∃ k : Nat, k ≤ n ∧ i = .int .i64 (k : Int) ∧ Hid ((l.take k).any p = false) ∧ Below w.heap.size w wr) (fun i _ => n - (intOf i).toNat)
  case atStart => exact ⟨0, Nat.zero_le _, rfl, rfl, Below.refl _ _⟩
  case round =>
    obtain ⟨k, hk, rfl, hT, hB⟩ := hrel
    by_cases hlt : k < n
    · obtain ⟨b, off, rfl, hat⟩ : ∃ b off, a = some ⟨b, off, none⟩ ∧ NodesAt w b off l := by
        rcases HN.out with h0 | h
        · have := HNN.out; rw [h0] at this; simp at this; omega
        · exact h
      obtain ⟨d, hd⟩ : ∃ d, l[k]? = some d := ⟨_, List.getElem?_eq_getElem (by have := HNN.out; omega)⟩
      obtain ⟨c0, c1, c2, c3, c4, c5, c6⟩ := (hat.below hB hat.1).2 k d hd
      have HC := Lib.hid (HCL.out.later hB wr d (Below.refl _ _))
      unfold eNdV at HC
      have hki : (k : Int) < (n : Int) := by omega
      clear hat
      cases hq : p d with
      | true =>
        have HE := Lib.hid (HI.out k d hd hT.out hq)
        rw [hq] at HC
        clear hq hd
        go_wp2_with (go_at_fn g; refine HC.out.mono ?_; rintro e w1 ⟨rfl, hb1⟩)
        go_ret
        rw [HE.out]
        exact ⟨rfl, hB.trans (hb1.mono hB.size)⟩
      | false =>
        have HE := Lib.hid (HA.out k d hd)
        rw [hq, hT.out] at HE
        rw [hq] at HC
        clear hq hd
        go_wp2_with (go_at_fn g; refine HC.out.mono ?_; rintro e w1 ⟨rfl, hb1⟩)
        go_roundw
        case rel => exact ⟨k + 1, by omega, by go_num, Lib.hid HE.out, hB.trans (hb1.mono hB.size)⟩
        case measure => simp [intOf]; omega
    · obtain rfl : k = n := by omega
      have HE := Lib.hid (HZ.out hT.out)
      clear hlt hk
      go_wp2
      go_ret
      rw [HE.out]
      exact ⟨rfl, hB⟩
set_option maxRecDepth 100000 in
theorem Try.ContainsFunc_nodes {v : Value} {p : Nd → Bool} (a : Option Addr) (l : List Nd) (c : Nat) (w : World) (hl : l.length ≤ 1000000) (hn : l = [] ∨ ∃ b off, a = some ⟨b, off, none⟩ ∧ NodesAt w b off l) (hv : IsNode v p w) :
    Calls Try.prog 60 #[.slice a l.length c, v] w fun e w' => e = .returned (.bool (l.any p)) ∧ Below w.heap.size w w' := by
  have HC := Lib.hid (Try.IndexFunc_nodes a l c w hl hn hv)
  rw [← idxP_any]
  generalize l.length = n at *
  generalize idxP p l = z at *
  obtain ⟨g, lb, rfl, eg, _⟩ := hv
  clear hn hl
  by_cases hz : 0 ≤ z
  · go_enter Try.func60, Try.ntmps60
    go_wp2_with (go_at_call 70; (with_reducible refine HC.out.mono ?_); rintro e w1 ⟨rfl, hb1⟩)
    go_ret
    exact ⟨cret_is (by simp [hz]), hb1⟩
  · go_enter Try.func60, Try.ntmps60
    go_wp2_with (go_at_call 70; (with_reducible refine HC.out.mono ?_); rintro e w1 ⟨rfl, hb1⟩)
    go_ret
    exact ⟨cret_is (by simp), hb1⟩
/-- The closure within each's: its opposite. -/
theorem Try.node_not {v : Value} {p : Nd → Bool} {b : Nat} {w : World} (hv : IsNode v p w) (hb : Box w b v) : NodeC 61 #[.pointer (some ⟨b, 0, none⟩)] (fun d => !p d) w := by
  obtain ⟨g, lb, rfl, eg, hcl⟩ := hv
  intro W d hW
  have l0 := (hb.later hW hb.1).1
  have h0 := (hb.later hW hb.1).2
  have HC := Lib.hid fun V hV => hcl.later hW V d hV
  have HB := Lib.hid (fbelow_box W (.cells #[.int .i64 d.x, .int .i64 d.y, .int .i64 d.demand, .int .i64 d.ready, .int .i64 d.due, .int .i64 d.service, .int .i64 d.mate] 40))
  unfold eNdV at HC ⊢
  clear hcl hW hb
  cases hp : p d <;> rw [hp] at HC
  all_goals
    have HP := Lib.hid hp
    clear hp
    go_enter Try.func61, Try.ntmps61
    go_wp2_with (go_at_fn g; refine (HC.out _ HB.out).mono ?_; rintro e w1 ⟨rfl, hb1⟩)
    go_ret
    exact ⟨cret_is (by rw [HP.out]; rfl), HB.out.trans (hb1.mono HB.out.size)⟩
set_option maxRecDepth 100000 in
set_option maxHeartbeats 1000000 in
theorem Try.fit_each {x : Ins} {vn vm v : Value} {p : Nd → Bool} {b : Nat} {w : World} (hx : HasIns w vn vm x) (hl : x.nodes.length ≤ 1000000) (hv : IsNode v p w) (hb : Box w b v) :
    FitC x vn vm 59 #[.pointer (some ⟨b, 0, none⟩)] (x.nodes.all p) w := by
  intro W hW
  obtain ⟨an, cn, rfl, hn⟩ := hx.nodes.dat
  obtain ⟨am, cm, rfl, _⟩ := hx.matrix.dat
  have q0 : Below W.heap.size W (W.alloc (.cells #[.string x.name, .int .i64 x.kind, .int .i64 x.metric, .int .i64 x.scale, .int .i64 x.cap, .int .i64 x.fleet, .slice an x.nodes.length cn, .slice am x.matrix.length cm] 25)) := fbelow_box W _
  have q1 := hW.trans (q0.mono hW.size)
  have HC := Lib.hid (Try.ContainsFunc_nodes (v := .func (.func 61) #[] #[.pointer (some ⟨b, 0, none⟩)]) (p := fun d => !p d) an x.nodes cn _ hl (hn.imp id fun ⟨b, off, h1, h2⟩ => ⟨b, off, h1, h2.next q1⟩) ⟨61, _, rfl, Try.enters_each11, Try.node_not (hv.later q1) (hb.later q1 hb.1)⟩)
  have e0 : x.nodes.all p = !(x.nodes.any fun d => !p d) := by simp [List.all_eq_not_any_not]
  have HB := Lib.hid q0
  rw [e0]
  unfold insV
  clear hx hl hv hn q0 q1 e0 hW hb
  generalize (x.nodes.any fun d => !p d) = z at *
  generalize x.nodes.length = L at *
  generalize x.matrix.length = M at *
  cases z
  all_goals
    go_enter Try.func59, Try.ntmps59
    go_wp2_with (go_at_call 60; (with_reducible refine HC.out.mono ?_); rintro e w1 ⟨rfl, hb1⟩)
    go_ret
    exact ⟨rfl, HB.out.trans (hb1.mono HB.out.size)⟩
theorem Try.each_calls {x : Ins} {vn vm v : Value} {p : Nd → Bool} (f : Int) (w : World) (hx : HasIns w vn vm x) (hl : x.nodes.length ≤ 1000000) (hv : IsNode v p w) :
    Calls Try.prog 37 #[.int .i64 f, v] w fun e w' => ∃ v', e = .returned v' ∧ IsLook x vn vm v' f (x.nodes.all p) w' ∧ Below w.heap.size w w' := by
  have k1 : Below w.heap.size w (w.alloc (.cells #[v] 57)) := fbelow_box _ _
  have HW := Lib.hid (Try.whole_calls (v := .func (.func 59) #[] #[.pointer (some ⟨w.heap.size, 0, none⟩)]) f _ (hx.next k1) ⟨59, _, rfl, Try.enters_each1, Try.fit_each (hx.next k1) hl (hv.later k1) (Box.new w v 57)⟩)
  have HB := Lib.hid k1
  obtain ⟨g, lb, rfl, eg, _⟩ := hv
  clear hx hl k1
  go_enter Try.func37, Try.ntmps37
  go_wp2_with (go_at_call 31; (with_reducible refine HW.out.mono ?_); rintro e w1 ⟨v1, rfl, hv1, hb1⟩; have HV := Lib.hid hv1; obtain ⟨g1, lb1, rfl, _, _⟩ := hv1)
  go_ret
  exact ⟨_, rfl, HV.out, HB.out.trans (hb1.mono HB.out.size)⟩
theorem Try.demands_calls {x : Ins} {vn vm : Value} (w : World) (hx : HasIns w vn vm x) (hl : x.nodes.length ≤ 1000000) :
    Calls Try.prog 20 #[] w fun e w' => ∃ v', e = .returned v' ∧ IsLook x vn vm v' 10 (x.nodes.all (fun d => decide (0 ≤ d.demand))) w' ∧ Below w.heap.size w w' := by
  have HW := Lib.hid (Try.each_calls (v := .func (.func 38) #[] #[]) 10 w hx hl ⟨38, #[], rfl, Try.enters_demands, Try.node_demands w⟩)
  clear hx hl
  go_enter Try.func20, Try.ntmps20
  go_wp2_with (go_at_call 37; (with_reducible refine HW.out.mono ?_); rintro e w1 ⟨v1, rfl, hv1, hb1⟩; have HV := Lib.hid hv1; obtain ⟨g1, lb1, rfl, _, _⟩ := hv1)
  go_ret
  exact ⟨_, rfl, HV.out, hb1⟩
theorem Try.noWindows_calls {x : Ins} {vn vm : Value} (w : World) (hx : HasIns w vn vm x) (hl : x.nodes.length ≤ 1000000) :
    Calls Try.prog 21 #[] w fun e w' => ∃ v', e = .returned v' ∧ IsLook x vn vm v' 11 (x.nodes.all (fun d => decide (d.ready = 0 ∧ d.due = 0))) w' ∧ Below w.heap.size w w' := by
  have HW := Lib.hid (Try.each_calls (v := .func (.func 39) #[] #[]) 11 w hx hl ⟨39, #[], rfl, Try.enters_noWindows, Try.node_noWindows w⟩)
  clear hx hl
  go_enter Try.func21, Try.ntmps21
  go_wp2_with (go_at_call 37; (with_reducible refine HW.out.mono ?_); rintro e w1 ⟨v1, rfl, hv1, hb1⟩; have HV := Lib.hid hv1; obtain ⟨g1, lb1, rfl, _, _⟩ := hv1)
  go_ret
  exact ⟨_, rfl, HV.out, hb1⟩
theorem Try.noService_calls {x : Ins} {vn vm : Value} (w : World) (hx : HasIns w vn vm x) (hl : x.nodes.length ≤ 1000000) :
    Calls Try.prog 22 #[] w fun e w' => ∃ v', e = .returned v' ∧ IsLook x vn vm v' 12 (x.nodes.all (fun d => decide (d.service = 0))) w' ∧ Below w.heap.size w w' := by
  have HW := Lib.hid (Try.each_calls (v := .func (.func 40) #[] #[]) 12 w hx hl ⟨40, #[], rfl, Try.enters_noService, Try.node_noService w⟩)
  clear hx hl
  go_enter Try.func22, Try.ntmps22
  go_wp2_with (go_at_call 37; (with_reducible refine HW.out.mono ?_); rintro e w1 ⟨v1, rfl, hv1, hb1⟩; have HV := Lib.hid hv1; obtain ⟨g1, lb1, rfl, _, _⟩ := hv1)
  go_ret
  exact ⟨_, rfl, HV.out, hb1⟩
theorem Try.noMates_calls {x : Ins} {vn vm : Value} (w : World) (hx : HasIns w vn vm x) (hl : x.nodes.length ≤ 1000000) :
    Calls Try.prog 23 #[] w fun e w' => ∃ v', e = .returned v' ∧ IsLook x vn vm v' 13 (x.nodes.all (fun d => decide (d.mate = 0))) w' ∧ Below w.heap.size w w' := by
  have HW := Lib.hid (Try.each_calls (v := .func (.func 41) #[] #[]) 13 w hx hl ⟨41, #[], rfl, Try.enters_noMates, Try.node_noMates w⟩)
  clear hx hl
  go_enter Try.func23, Try.ntmps23
  go_wp2_with (go_at_call 37; (with_reducible refine HW.out.mono ?_); rintro e w1 ⟨v1, rfl, hv1, hb1⟩; have HV := Lib.hid hv1; obtain ⟨g1, lb1, rfl, _, _⟩ := hv1)
  go_ret
  exact ⟨_, rfl, HV.out, hb1⟩
end Go.Proofs
