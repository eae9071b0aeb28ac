/- What is looked at of the whole: checkNumbers. Conditions: a name of 100 bytes at most; fewer than a million faults so far. -/
import Derived.Test.YtebkmcafahkdbaaG11
namespace Go.Canon
/-- What a scale, a capacity, a fleet may be. -/
def scalesS (metric : Int) : Int × Int := if metric = 0 then (0, 0) else (0, 6)
def capsS (kind : Int) : Int × Int := if kind = 1 then (0, 0) else (1, 100000000)
def fleetsS (kind : Int) : Int × Int := if kind = 1 then (0, 0) else (0, 400)
theorem scale_has (metric s : Int) : has (scalesS metric) s = scaleB metric s := by
  unfold scaleB scalesS has
  by_cases h : metric = 0
  · rw [if_pos h, Bool.eq_iff_iff]; simp [h]; omega
  · rw [if_neg h, Bool.eq_iff_iff]; simp [h]
theorem cap_has (kind c : Int) : has (capsS kind) c = capB kind c := by
  unfold capB capsS has
  by_cases h : kind = 1
  · rw [if_pos h, if_pos h, Bool.eq_iff_iff]; simp; omega
  · rw [if_neg h, if_neg h]
theorem fleet_has (kind c : Int) : has (fleetsS kind) c = fleetB kind c := by
  unfold fleetB fleetsS has
  by_cases h : kind = 1
  · rw [if_pos h, if_pos h, Bool.eq_iff_iff]; simp; omega
  · rw [if_neg h, if_neg h]
theorem kind_has (kind : Int) : has (1, 4) kind = kindB kind := rfl
theorem says_len (l : List (Nat × Nat)) (b : Bool) (f n : Nat) : (l ++ says b f n).length ≤ l.length + 1 := by
  unfold says; cases b <;> simp
def nameB (s : ByteArray) : Bool := Go.Wds.nameL s.data.toList
end Go.Canon
namespace Go.Proofs
open Go.RowKit Go.Shelf Go.Canon
attribute [local go_sem] Oper.semAt_some

def tellV (bx : Nat) : Value := .func (.func 64) #[] #[.pointer (some ⟨bx, 0, none⟩)]
/-- What stands in the middle of checkNumbers. -/
structure NumS (w : World) (bx : Nat) (x : Ins) (vn vm : Value) (W : World) (v : Value) (l : List (Nat × Nat)) (s c f : Int × Int) : Prop where
  pb : W.heap[w.heap.size]? = some (.cells #[.string x.name, .int .i64 x.kind, .int .i64 x.metric, .int .i64 x.scale, .int .i64 x.cap, .int .i64 x.fleet, vn, vm] 25)
  sb : W.heap[w.heap.size + 1]? = some (.cells #[.int .i64 s.1, .int .i64 s.2] 71)
  cb : W.heap[w.heap.size + 2]? = some (.cells #[.int .i64 c.1, .int .i64 c.2] 71)
  fb : W.heap[w.heap.size + 3]? = some (.cells #[.int .i64 f.1, .int .i64 f.2] 71)
  tell : TellS bx W v l
  told : Told bx w W
  sz : w.heap.size + 4 ≤ W.heap.size
theorem NumS.step {w W W' : World} {bx : Nat} {x : Ins} {vn vm v v' : Value} {l l' : List (Nat × Nat)} {s c f : Int × Int} (h : NumS w bx x vn vm W v l s c f) (h1 : TellS bx W' v' l') (h2 : Told bx W W') (h3 : W.heap.size ≤ W'.heap.size) : NumS w bx x vn vm W' v' l' s c f :=
  ⟨h2.keep _ _ _ h.pb (by decide) (by decide), h2.keep _ _ _ h.sb (by decide) (by decide), h2.keep _ _ _ h.cb (by decide) (by decide), h2.keep _ _ _ h.fb (by decide) (by decide), h1, h.told.trans h2, Nat.le_trans h.sz h3⟩
theorem NumS.next {w W W' : World} {bx : Nat} {x : Ins} {vn vm v : Value} {l : List (Nat × Nat)} {s c f : Int × Int} (h : NumS w bx x vn vm W v l s c f) (hb : Below W.heap.size W W') : NumS w bx x vn vm W' v l s c f :=
  h.step (h.tell.next hb) (Told.of hb (by have := h.tell.sz; omega)) hb.size
theorem NumS.p {w W : World} {bx : Nat} {x : Ins} {vn vm v : Value} {l : List (Nat × Nat)} {s c f : Int × Int} (h : NumS w bx x vn vm W v l s c f) (j : Nat) : W.cell? ⟨w.heap.size, j, none⟩ = (#[Value.string x.name, .int .i64 x.kind, .int .i64 x.metric, .int .i64 x.scale, .int .i64 x.cap, .int .i64 x.fleet, vn, vm] : Array Value)[j]? := by
  unfold World.cell?; rw [h.pb]; rfl
theorem NumS.s0 {w W : World} {bx : Nat} {x : Ins} {vn vm v : Value} {l : List (Nat × Nat)} {s c f : Int × Int} (h : NumS w bx x vn vm W v l s c f) (j : Nat) : W.cell? ⟨w.heap.size + 1, j, none⟩ = (#[Value.int .i64 s.1, .int .i64 s.2] : Array Value)[j]? := by
  unfold World.cell?; rw [h.sb]; rfl
theorem NumS.s1 {w W : World} {bx : Nat} {x : Ins} {vn vm v : Value} {l : List (Nat × Nat)} {s c f : Int × Int} (h : NumS w bx x vn vm W v l s c f) (j : Nat) : W.frozen? ⟨w.heap.size + 1, j, none⟩ = false := by
  unfold World.frozen?; rw [h.sb]; rfl
theorem NumS.c0 {w W : World} {bx : Nat} {x : Ins} {vn vm v : Value} {l : List (Nat × Nat)} {s c f : Int × Int} (h : NumS w bx x vn vm W v l s c f) (j : Nat) : W.cell? ⟨w.heap.size + 2, j, none⟩ = (#[Value.int .i64 c.1, .int .i64 c.2] : Array Value)[j]? := by
  unfold World.cell?; rw [h.cb]; rfl
theorem NumS.c1 {w W : World} {bx : Nat} {x : Ins} {vn vm v : Value} {l : List (Nat × Nat)} {s c f : Int × Int} (h : NumS w bx x vn vm W v l s c f) (j : Nat) : W.frozen? ⟨w.heap.size + 2, j, none⟩ = false := by
  unfold World.frozen?; rw [h.cb]; rfl
theorem NumS.f0 {w W : World} {bx : Nat} {x : Ins} {vn vm v : Value} {l : List (Nat × Nat)} {s c f : Int × Int} (h : NumS w bx x vn vm W v l s c f) (j : Nat) : W.cell? ⟨w.heap.size + 3, j, none⟩ = (#[Value.int .i64 f.1, .int .i64 f.2] : Array Value)[j]? := by
  unfold World.cell?; rw [h.fb]; rfl
theorem NumS.f1 {w W : World} {bx : Nat} {x : Ins} {vn vm v : Value} {l : List (Nat × Nat)} {s c f : Int × Int} (h : NumS w bx x vn vm W v l s c f) (j : Nat) : W.frozen? ⟨w.heap.size + 3, j, none⟩ = false := by
  unfold World.frozen?; rw [h.fb]; rfl
theorem TellS.set {bx : Nat} {W : World} {v : Value} {l : List (Nat × Nat)} (h : TellS bx W v l) {a : Addr} {cs : Array Value} {t : TypeId} (ha : W.heap[a.block]? = some (.cells cs t)) (h1 : t ≠ 66) (h2 : t ≠ 63) (u : Value) : TellS bx (W.setCell a u) v l := by
  have hab : bx ≠ a.block := fun e => by rw [← e, h.cb] at ha; injection ha with ha; injection ha with _ e2; exact h2 e2.symm
  have hao : ∀ g, v.ownBlock = some g → g ≠ a.block := fun g e e1 => by
    rcases h.row.2 with ⟨rfl, _⟩ | ⟨g', cap, cur, rfl, _, hg, _⟩
    · simp [Value.ownBlock] at e
    · have e3 : g' = g := by simpa [Value.ownBlock] using e
      rw [e3, e1, ha] at hg; injection hg with hg; injection hg with _ e2; exact h1 e2
  exact ⟨h.row.kept (row := some a.block) ⟨rfl, rfl, rfl, by simp [World.setCell], fun k _ hk => Below.heap_setCell _ _ _ _ (fun e => hk (by rw [e]))⟩ (.inr fun e => hao _ e rfl), (Below.heap_setCell _ _ _ _ hab).trans h.cb, by have := h.sz; simpa [World.setCell] using this⟩
theorem Told.set {bx : Nat} {w W : World} (h : Told bx w W) {a : Addr} (ha : w.heap.size ≤ a.block) (hb : bx ≤ a.block) (u : Value) : Told bx w (W.setCell a u) :=
  ⟨h.below.setCell hb _, fun k cs t hk h1 h2 => by
    have := (Array.getElem?_eq_some_iff.1 hk).1
    rw [Below.heap_setCell _ _ _ _ (by omega)]; exact h.keep k cs t hk h1 h2⟩

theorem NumS.sets {w W : World} {bx : Nat} {x : Ins} {vn vm v : Value} {l : List (Nat × Nat)} {s c f : Int × Int} (h : NumS w bx x vn vm W v l s c f) (hb : bx < w.heap.size) (r : Int × Int) : NumS w bx x vn vm ((W.setCell ⟨w.heap.size + 1, 0, none⟩ (.int .i64 r.1)).setCell ⟨w.heap.size + 1, 1, none⟩ (.int .i64 r.2)) v l r c f := by
  have hset : ∀ k, k ≠ w.heap.size + 1 → ((W.setCell ⟨w.heap.size + 1, 0, none⟩ (.int .i64 r.1)).setCell ⟨w.heap.size + 1, 1, none⟩ (.int .i64 r.2)).heap[k]? = W.heap[k]? := fun k hk => by
    rw [Below.heap_setCell _ _ _ _ hk, Below.heap_setCell _ _ _ _ hk]
  have e1 : (W.setCell ⟨w.heap.size + 1, 0, none⟩ (.int .i64 r.1)).heap[w.heap.size + 1]? = some (.cells #[.int .i64 r.1, .int .i64 s.2] 71) := by have e := h.sb; simp [World.setCell, Array.getElem?_modify, e]
  exact ⟨(hset _ (by omega)).trans h.pb, by have e := h.sb; simp [World.setCell, Array.getElem?_modify, e], (hset _ (by omega)).trans h.cb, (hset _ (by omega)).trans h.fb, (h.tell.set (a := ⟨w.heap.size + 1, 0, none⟩) h.sb (by decide) (by decide) _).set (a := ⟨w.heap.size + 1, 1, none⟩) e1 (by decide) (by decide) _, (h.told.set (by show w.heap.size ≤ w.heap.size + 1; omega) (by show bx ≤ w.heap.size + 1; omega) _).set (by show w.heap.size ≤ w.heap.size + 1; omega) (by show bx ≤ w.heap.size + 1; omega) _, by have := h.sz; simpa [World.setCell] using this⟩
theorem NumS.setc {w W : World} {bx : Nat} {x : Ins} {vn vm v : Value} {l : List (Nat × Nat)} {s c f : Int × Int} (h : NumS w bx x vn vm W v l s c f) (hb : bx < w.heap.size) (r : Int × Int) : NumS w bx x vn vm ((W.setCell ⟨w.heap.size + 2, 0, none⟩ (.int .i64 r.1)).setCell ⟨w.heap.size + 2, 1, none⟩ (.int .i64 r.2)) v l s r f := by
  have hset : ∀ k, k ≠ w.heap.size + 2 → ((W.setCell ⟨w.heap.size + 2, 0, none⟩ (.int .i64 r.1)).setCell ⟨w.heap.size + 2, 1, none⟩ (.int .i64 r.2)).heap[k]? = W.heap[k]? := fun k hk => by
    rw [Below.heap_setCell _ _ _ _ hk, Below.heap_setCell _ _ _ _ hk]
  have e1 : (W.setCell ⟨w.heap.size + 2, 0, none⟩ (.int .i64 r.1)).heap[w.heap.size + 2]? = some (.cells #[.int .i64 r.1, .int .i64 c.2] 71) := by have e := h.cb; simp [World.setCell, Array.getElem?_modify, e]
  exact ⟨(hset _ (by omega)).trans h.pb, (hset _ (by omega)).trans h.sb, by have e := h.cb; simp [World.setCell, Array.getElem?_modify, e], (hset _ (by omega)).trans h.fb, (h.tell.set (a := ⟨w.heap.size + 2, 0, none⟩) h.cb (by decide) (by decide) _).set (a := ⟨w.heap.size + 2, 1, none⟩) e1 (by decide) (by decide) _, (h.told.set (by show w.heap.size ≤ w.heap.size + 2; omega) (by show bx ≤ w.heap.size + 2; omega) _).set (by show w.heap.size ≤ w.heap.size + 2; omega) (by show bx ≤ w.heap.size + 2; omega) _, by have := h.sz; simpa [World.setCell] using this⟩
theorem NumS.setf {w W : World} {bx : Nat} {x : Ins} {vn vm v : Value} {l : List (Nat × Nat)} {s c f : Int × Int} (h : NumS w bx x vn vm W v l s c f) (hb : bx < w.heap.size) (r : Int × Int) : NumS w bx x vn vm ((W.setCell ⟨w.heap.size + 3, 0, none⟩ (.int .i64 r.1)).setCell ⟨w.heap.size + 3, 1, none⟩ (.int .i64 r.2)) v l s c r := by
  have hset : ∀ k, k ≠ w.heap.size + 3 → ((W.setCell ⟨w.heap.size + 3, 0, none⟩ (.int .i64 r.1)).setCell ⟨w.heap.size + 3, 1, none⟩ (.int .i64 r.2)).heap[k]? = W.heap[k]? := fun k hk => by
    rw [Below.heap_setCell _ _ _ _ hk, Below.heap_setCell _ _ _ _ hk]
  have e1 : (W.setCell ⟨w.heap.size + 3, 0, none⟩ (.int .i64 r.1)).heap[w.heap.size + 3]? = some (.cells #[.int .i64 r.1, .int .i64 f.2] 71) := by have e := h.fb; simp [World.setCell, Array.getElem?_modify, e]
  exact ⟨(hset _ (by omega)).trans h.pb, (hset _ (by omega)).trans h.sb, (hset _ (by omega)).trans h.cb, by have e := h.fb; simp [World.setCell, Array.getElem?_modify, e], (h.tell.set (a := ⟨w.heap.size + 3, 0, none⟩) h.fb (by decide) (by decide) _).set (a := ⟨w.heap.size + 3, 1, none⟩) e1 (by decide) (by decide) _, (h.told.set (by show w.heap.size ≤ w.heap.size + 3; omega) (by show bx ≤ w.heap.size + 3; omega) _).set (by show w.heap.size ≤ w.heap.size + 3; omega) (by show bx ≤ w.heap.size + 3; omega) _, by have := h.sz; simpa [World.setCell] using this⟩
theorem num_start {w : World} {bx : Nat} (x : Ins) (vn vm : Value) {v : Value} {l : List (Nat × Nat)} (h : TellS bx w v l) (s c f : Int × Int) : NumS w bx x vn vm ((((w.alloc (.cells #[.string x.name, .int .i64 x.kind, .int .i64 x.metric, .int .i64 x.scale, .int .i64 x.cap, .int .i64 x.fleet, vn, vm] 25)).alloc (.cells #[.int .i64 s.1, .int .i64 s.2] 71)).alloc (.cells #[.int .i64 c.1, .int .i64 c.2] 71)).alloc (.cells #[.int .i64 f.1, .int .i64 f.2] 71)) v l s c f := by
  obtain ⟨h1, h2, h3, h4⟩ := three_blocks w (.cells #[.string x.name, .int .i64 x.kind, .int .i64 x.metric, .int .i64 x.scale, .int .i64 x.cap, .int .i64 x.fleet, vn, vm] 25) (.cells #[.int .i64 s.1, .int .i64 s.2] 71) (.cells #[.int .i64 c.1, .int .i64 c.2] 71)
  generalize hW : ((w.alloc (.cells #[.string x.name, .int .i64 x.kind, .int .i64 x.metric, .int .i64 x.scale, .int .i64 x.cap, .int .i64 x.fleet, vn, vm] 25)).alloc (.cells #[.int .i64 s.1, .int .i64 s.2] 71)).alloc (.cells #[.int .i64 c.1, .int .i64 c.2] 71) = W at *
  have B3 : Below w.heap.size w W := by rw [← hW]; exact (below_two _ _ _).alloc (below_two _ _ _).size _
  have B4 := below_box W (.cells #[.int .i64 f.1, .int .i64 f.2] 71)
  have B := B3.trans (B4.mono B3.size)
  have h5 := World.alloc_heap_new W (.cells #[.int .i64 f.1, .int .i64 f.2] 71)
  rw [h4] at h5
  have hs := h.sz
  exact ⟨(B4.block _ (by omega)).trans h1, (B4.block _ (by omega)).trans h2, (B4.block _ (by omega)).trans h3, h5, h.next B, Told.of B (by omega), by show _ ≤ (W.heap.push _).size; simp; omega⟩
set_option maxRecDepth 100000 in
set_option maxHeartbeats 1000000 in
theorem Try.checkNumbers_calls (bx : Nat) (x : Ins) (vn vm v : Value) (l : List (Nat × Nat)) (w : World) (hx : HasIns w vn vm x) (hs : x.name.size ≤ 100) (ht : TellS bx w v l) (hl : l.length ≤ 100) :
    Calls Try.prog 65 #[insV x vn vm, tellV bx] w fun e w' => e = .returned (.tuple #[]) ∧ ∃ v', TellS bx w' v' (l ++ heads nameB x) ∧ Told bx w w' := by
  have H1 := Lib.hid (fun W => Try.Name_calls x.name W (Nat.le_trans hs (by decide)))
  have H3 := Lib.hid (fun W => Try.Known_calls x.metric W)
  have H2 := Lib.hid (fun W => (Try.has_hid (1, 4)).out x.kind W)
  have H4 := Lib.hid (fun W => (Try.has_hid (scalesS x.metric)).out x.scale W)
  have H5 := Lib.hid (fun W => (Try.has_hid (capsS x.kind)).out x.cap W)
  have H6 := Lib.hid (fun W => (Try.has_hid (fleetsS x.kind)).out x.fleet W)
  have HT := Lib.hid (fun f n b v l W => Try.tell_calls bx f n b v l W)
  have hbx : bx < w.heap.size := by have := ht.sz; omega
  have HBX := Lib.hid hbx
  have HL := Lib.hid hl
  have HE : Hid (l ++ heads nameB x = l ++ says (Go.Wds.nameL x.name.data.toList) 1 0 ++ says (has (1, 4) x.kind) 2 0 ++ says (Go.Metric.knownB x.metric) 3 0 ++ says (has (scalesS x.metric) x.scale) 4 0 ++ says (has (capsS x.kind) x.cap) 5 0 ++ says (has (fleetsS x.kind) x.fleet) 6 0) := by
    unfold Hid
    rw [scale_has, cap_has, fleet_has, kind_has]
    simp only [heads, List.append_assoc]
    rfl
  obtain ⟨an, cn, rfl, _⟩ := hx.nodes.dat
  obtain ⟨am, cm, rfl, _⟩ := hx.matrix.dat
  unfold insV tellV
  generalize x.nodes.length = L
  generalize x.matrix.length = M
  have S0 := Lib.hid (fun s => num_start x (.slice an L cn) (.slice am M cm) ht s (1, 100000000) (0, 400))
  clear hx hs ht hl hbx
  generalize Go.Wds.nameL x.name.data.toList = b1 at *
  generalize has (1, 4) x.kind = b2 at *
  generalize Go.Metric.knownB x.metric = b3 at *
  generalize has (scalesS x.metric) x.scale = b4 at *
  generalize has (capsS x.kind) x.cap = b5 at *
  generalize has (fleetsS x.kind) x.fleet = b6 at *
  go_enter Try.func65, Try.ntmps65
  have p2 : _ = some (Value.int .i64 x.metric) := (S0.out (0, 6)).p 2
  go_upto_if 12 with (fail)
  clear p2
  go_cut [10] from 7 to 13 (fun _ wx => NumS w bx x (.slice an L cn) (.slice am M cm) wx v l (scalesS x.metric) (1, 100000000) (0, 400))
  case first =>
    by_cases hm : x.metric = 0
    · have k : (x.metric == 0) = true := beq_iff_eq.2 hm
      have e : scalesS x.metric = (0, 0) := by unfold scalesS; rw [if_pos hm]
      have HS := Lib.hid e
      clear hm e
      go_wp2
      go_meet
      rw [HS.out]; exact S0.out (0, 0)
    · have k : (x.metric == 0) = false := beq_eq_false_iff_ne.2 hm
      have e : scalesS x.metric = (0, 6) := by unfold scalesS; rw [if_neg hm]
      have HS := Lib.hid e
      clear hm e
      go_wp2
      go_meet
      rw [HS.out]; exact S0.out (0, 6)
  case rest =>
  have HC := Lib.hid hcut
  have p1 : wc.cell? ⟨w.heap.size, 1, none⟩ = some (.int .i64 x.kind) := hcut.p 1
  clear hcut S0
  go_upto_if 16 with (fail)
  clear p1
  go_cut [10] from 7 to 18 (fun _ wx => NumS w bx x (.slice an L cn) (.slice am M cm) wx v l (scalesS x.metric) (capsS x.kind) (fleetsS x.kind))
  case first =>
    by_cases hm : x.kind = 1
    · have k : (x.kind == 1) = true := beq_iff_eq.2 hm
      have e1 : capsS x.kind = (0, 0) := by unfold capsS; rw [if_pos hm]
      have e2 : fleetsS x.kind = (0, 0) := by unfold fleetsS; rw [if_pos hm]
      have HS1 := Lib.hid e1
      have HS2 := Lib.hid e2
      have c0 : wc.cell? ⟨w.heap.size + 1 + 1, 0, none⟩ = some (.int .i64 1) := HC.out.c0 0
      have c1 : wc.cell? ⟨w.heap.size + 1 + 1, 1, none⟩ = some (.int .i64 100000000) := HC.out.c0 1
      have c2 : wc.frozen? ⟨w.heap.size + 1 + 1, 0, none⟩ = false := HC.out.c1 0
      have c3 : wc.frozen? ⟨w.heap.size + 1 + 1, 1, none⟩ = false := HC.out.c1 1
      have R := Lib.hid (HC.out.setc HBX.out (0, 0))
      have f0 : ∀ u z, ((wc.setCell ⟨w.heap.size + 1 + 1, 0, none⟩ u).setCell ⟨w.heap.size + 1 + 1, 1, none⟩ z).cell? ⟨w.heap.size + 1 + 1 + 1, 0, none⟩ = some (.int .i64 0) := fun u z => by
        have e : ((wc.setCell ⟨w.heap.size + 1 + 1, 0, none⟩ u).setCell ⟨w.heap.size + 1 + 1, 1, none⟩ z).heap[w.heap.size + 3]? = wc.heap[w.heap.size + 3]? := by
          rw [Below.heap_setCell _ _ _ _ (by show w.heap.size + 3 ≠ w.heap.size + 1 + 1; omega), Below.heap_setCell _ _ _ _ (by show w.heap.size + 3 ≠ w.heap.size + 1 + 1; omega)]
        exact (World.cell?_of_block (a := ⟨w.heap.size + 3, 0, none⟩) e).trans (HC.out.f0 0)
      have f1 : wc.cell? ⟨w.heap.size + 1 + 1 + 1, 0, none⟩ = some (.int .i64 0) := HC.out.f0 0
      have f2 : wc.cell? ⟨w.heap.size + 1 + 1 + 1, 1, none⟩ = some (.int .i64 400) := HC.out.f0 1
      have f3 : wc.frozen? ⟨w.heap.size + 1 + 1 + 1, 0, none⟩ = false := HC.out.f1 0
      have f4 : wc.frozen? ⟨w.heap.size + 1 + 1 + 1, 1, none⟩ = false := HC.out.f1 1
      clear hm e1 e2
      go_wp2
      go_meet
      rw [HS1.out, HS2.out]; exact R.out.setf HBX.out (0, 0)
    · have k : (x.kind == 1) = false := beq_eq_false_iff_ne.2 hm
      have e1 : capsS x.kind = (1, 100000000) := by unfold capsS; rw [if_neg hm]
      have e2 : fleetsS x.kind = (0, 400) := by unfold fleetsS; rw [if_neg hm]
      have HS1 := Lib.hid e1
      have HS2 := Lib.hid e2
      clear hm e1 e2
      go_wp2
      go_meet
      rw [HS1.out, HS2.out]; exact HC.out
  case rest =>
  clear HC
  have S1 := Lib.hid hcut
  have hl0 := HL.out
  have p1 : wc.cell? ⟨w.heap.size, 0, none⟩ = some (.string x.name) := S1.out.p 0
  clear hcut
  go_wp2_with (fail)
  refine (H1.out _).mono ?_
  rintro e w1a ⟨rfl, h1⟩
  have T1 := Lib.hid (S1.out.next h1)
  clear h1
  clear p1 S1
  go_wp2_with (fail)
  refine (HT.out 1 0 b1 _ (l) _ T1.out.tell (by omega)).mono ?_
  rintro e w1b ⟨rfl, v1, h1, t1⟩
  have S2 := Lib.hid (T1.out.step h1 t1 t1.below.size)
  have hl1 := says_len (l) b1 1 0
  clear T1 h1 t1
  have p2 : w1b.cell? ⟨w.heap.size, 1, none⟩ = some (.int .i64 x.kind) := S2.out.p 1
  go_wp2_with (fail)
  refine (H2.out _).mono ?_
  rintro e w2a ⟨rfl, h2⟩
  have T2 := Lib.hid (S2.out.next h2)
  clear h2
  clear p2 S2
  go_wp2_with (fail)
  refine (HT.out 2 0 b2 _ (l ++ says b1 1 0) _ T2.out.tell (by omega)).mono ?_
  rintro e w2b ⟨rfl, v2, h2, t2⟩
  have S3 := Lib.hid (T2.out.step h2 t2 t2.below.size)
  have hl2 := says_len (l ++ says b1 1 0) b2 2 0
  clear T2 h2 t2
  have p3 : w2b.cell? ⟨w.heap.size, 2, none⟩ = some (.int .i64 x.metric) := S3.out.p 2
  go_wp2_with (fail)
  refine (H3.out _).mono ?_
  rintro e w3a ⟨rfl, h3⟩
  obtain rfl : _ = w3a := h3.symm
  have T3 := Lib.hid S3.out
  clear p3 S3
  go_wp2_with (fail)
  refine (HT.out 3 0 b3 _ (l ++ says b1 1 0 ++ says b2 2 0) _ T3.out.tell (by omega)).mono ?_
  rintro e w3b ⟨rfl, v3, h3, t3⟩
  have S4 := Lib.hid (T3.out.step h3 t3 t3.below.size)
  have hl3 := says_len (l ++ says b1 1 0 ++ says b2 2 0) b3 3 0
  clear T3 h3 t3
  have p4 : w3b.cell? ⟨w.heap.size, 3, none⟩ = some (.int .i64 x.scale) := S4.out.p 3
  have q0 : w3b.cell? ⟨w.heap.size + 1, 0, none⟩ = some (.int .i64 (scalesS x.metric).1) := S4.out.s0 0
  have q1 : w3b.cell? ⟨w.heap.size + 1, 1, none⟩ = some (.int .i64 (scalesS x.metric).2) := S4.out.s0 1
  go_wp2_with (fail)
  refine (H4.out _).mono ?_
  rintro e w4a ⟨rfl, h4⟩
  have T4 := Lib.hid (S4.out.next h4)
  clear h4
  clear p4 S4 q0 q1
  go_wp2_with (fail)
  refine (HT.out 4 0 b4 _ (l ++ says b1 1 0 ++ says b2 2 0 ++ says b3 3 0) _ T4.out.tell (by omega)).mono ?_
  rintro e w4b ⟨rfl, v4, h4, t4⟩
  have S5 := Lib.hid (T4.out.step h4 t4 t4.below.size)
  have hl4 := says_len (l ++ says b1 1 0 ++ says b2 2 0 ++ says b3 3 0) b4 4 0
  clear T4 h4 t4
  have p5 : w4b.cell? ⟨w.heap.size, 4, none⟩ = some (.int .i64 x.cap) := S5.out.p 4
  have q0 : w4b.cell? ⟨w.heap.size + 1 + 1, 0, none⟩ = some (.int .i64 (capsS x.kind).1) := S5.out.c0 0
  have q1 : w4b.cell? ⟨w.heap.size + 1 + 1, 1, none⟩ = some (.int .i64 (capsS x.kind).2) := S5.out.c0 1
  go_wp2_with (fail)
  refine (H5.out _).mono ?_
  rintro e w5a ⟨rfl, h5⟩
  have T5 := Lib.hid (S5.out.next h5)
  clear h5
  clear p5 S5 q0 q1
  go_wp2_with (fail)
  refine (HT.out 5 0 b5 _ (l ++ says b1 1 0 ++ says b2 2 0 ++ says b3 3 0 ++ says b4 4 0) _ T5.out.tell (by omega)).mono ?_
  rintro e w5b ⟨rfl, v5, h5, t5⟩
  have S6 := Lib.hid (T5.out.step h5 t5 t5.below.size)
  have hl5 := says_len (l ++ says b1 1 0 ++ says b2 2 0 ++ says b3 3 0 ++ says b4 4 0) b5 5 0
  clear T5 h5 t5
  have p6 : w5b.cell? ⟨w.heap.size, 5, none⟩ = some (.int .i64 x.fleet) := S6.out.p 5
  have q0 : w5b.cell? ⟨w.heap.size + 1 + 1 + 1, 0, none⟩ = some (.int .i64 (fleetsS x.kind).1) := S6.out.f0 0
  have q1 : w5b.cell? ⟨w.heap.size + 1 + 1 + 1, 1, none⟩ = some (.int .i64 (fleetsS x.kind).2) := S6.out.f0 1
  go_wp2_with (fail)
  refine (H6.out _).mono ?_
  rintro e w6a ⟨rfl, h6⟩
  have T6 := Lib.hid (S6.out.next h6)
  clear h6
  clear p6 S6 q0 q1
  go_wp2_with (fail)
  refine (HT.out 6 0 b6 _ (l ++ says b1 1 0 ++ says b2 2 0 ++ says b3 3 0 ++ says b4 4 0 ++ says b5 5 0) _ T6.out.tell (by omega)).mono ?_
  rintro e w6b ⟨rfl, v6, h6, t6⟩
  have S7 := Lib.hid (T6.out.step h6 t6 t6.below.size)
  have hl6 := says_len (l ++ says b1 1 0 ++ says b2 2 0 ++ says b3 3 0 ++ says b4 4 0 ++ says b5 5 0) b6 6 0
  clear T6 h6 t6
  go_wp2
  go_end0
  exact ⟨rfl, _, by rw [HE.out]; exact S7.out.tell, S7.out.told⟩
end Go.Proofs
