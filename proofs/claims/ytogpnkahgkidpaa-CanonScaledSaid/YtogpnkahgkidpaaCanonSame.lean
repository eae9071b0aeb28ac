/- The document's own Same of instances. Conditions: lists of at most a million. -/
import Derived.Test.YtogpnkahgkidpaaCanonFaults
namespace Go.Canon
theorem Ins.ext' {a b : Ins} (h1 : a.name = b.name) (h2 : a.kind = b.kind) (h3 : a.metric = b.metric) (h4 : a.scale = b.scale) (h5 : a.cap = b.cap) (h6 : a.fleet = b.fleet) (h7 : a.nodes = b.nodes) (h8 : a.matrix = b.matrix) : a = b := by
  cases a; cases b; simp_all
instance : DecidableEq Ins := fun a b =>
  if h : a.name = b.name ∧ a.kind = b.kind ∧ a.metric = b.metric ∧ a.scale = b.scale ∧ a.cap = b.cap ∧ a.fleet = b.fleet ∧ a.nodes = b.nodes ∧ a.matrix = b.matrix then
    isTrue (Ins.ext' h.1 h.2.1 h.2.2.1 h.2.2.2.1 h.2.2.2.2.1 h.2.2.2.2.2.1 h.2.2.2.2.2.2.1 h.2.2.2.2.2.2.2)
  else isFalse fun e => h (by rw [e]; exact ⟨rfl, rfl, rfl, rfl, rfl, rfl, rfl, rfl⟩)
end Go.Canon
namespace Go.Proofs
open Go.RowKit Go.Shelf Go.Canon
attribute [local go_sem] Oper.semAt_some

theorem ctoList_ne {a b : ByteArray} (h : ¬ a = b) : ¬ a.toList = b.toList := fun e => by
  rw [ByteArray.toList_eq, ByteArray.toList_eq] at e
  cases a; cases b
  exact h (congrArg ByteArray.mk (Array.toList_inj.1 e))
set_option maxRecDepth 100000 in
set_option maxHeartbeats 2000000 in
theorem Try.rsame_head (x y : Ins) (an am bn bm : Option Addr) (cn cm dn dm : Nat) (w : World) (h : ¬(x.name = y.name ∧ x.kind = y.kind ∧ x.metric = y.metric ∧ x.scale = y.scale ∧ x.cap = y.cap ∧ x.fleet = y.fleet ∧ x.nodes.length = y.nodes.length ∧ x.matrix.length = y.matrix.length)) :
    Calls Try.prog 17 #[insV x (.slice an x.nodes.length cn) (.slice am x.matrix.length cm), insV y (.slice bn y.nodes.length dn) (.slice bm y.matrix.length dm)] w fun e w' => e = .returned (.bool false) ∧ Below w.heap.size w w' := by
  unfold insV
  obtain ⟨n1, k1, m1, s1, c1, f1, l1, t1⟩ := x
  obtain ⟨n2, k2, m2, s2, c2, f2, l2, t2⟩ := y
  dsimp only at h ⊢
  generalize l1.length = L1 at h ⊢
  generalize l2.length = L2 at h ⊢
  generalize t1.length = M1 at h ⊢
  generalize t2.length = M2 at h ⊢
  by_cases h0 : n1 = n2
  · subst h0
    by_cases h0 : k1 = k2
    · subst h0
      by_cases h0 : m1 = m2
      · subst h0
        by_cases h0 : s1 = s2
        · subst h0
          by_cases h0 : c1 = c2
          · subst h0
            by_cases h0 : f1 = f2
            · subst h0
              by_cases h0 : L1 = L2
              · subst h0
                by_cases h0 : M1 = M2
                · subst h0
                  exact absurd ⟨rfl, rfl, rfl, rfl, rfl, rfl, rfl, rfl⟩ h
                · have d : ((M1 : Int) != (M2 : Int)) = true := nat_bne true (decide_eq_false h0)
                  clear h h0
                  go_enter Try.func17, Try.ntmps17
                  go_wp2
                  go_ret
                  exact ⟨rfl, below_two _ _ _⟩
              · have d : ((L1 : Int) != (L2 : Int)) = true := nat_bne true (decide_eq_false h0)
                clear h h0
                go_enter Try.func17, Try.ntmps17
                go_wp2
                go_ret
                exact ⟨rfl, below_two _ _ _⟩
            · have d : (f1 != f2) = true := bne_iff_ne.2 h0
              clear h h0
              go_enter Try.func17, Try.ntmps17
              go_wp2
              go_ret
              exact ⟨rfl, below_two _ _ _⟩
          · have d : (c1 != c2) = true := bne_iff_ne.2 h0
            clear h h0
            go_enter Try.func17, Try.ntmps17
            go_wp2
            go_ret
            exact ⟨rfl, below_two _ _ _⟩
        · have d : (s1 != s2) = true := bne_iff_ne.2 h0
          clear h h0
          go_enter Try.func17, Try.ntmps17
          go_wp2
          go_ret
          exact ⟨rfl, below_two _ _ _⟩
      · have d : (m1 != m2) = true := bne_iff_ne.2 h0
        clear h h0
        go_enter Try.func17, Try.ntmps17
        go_wp2
        go_ret
        exact ⟨rfl, below_two _ _ _⟩
    · have d : (k1 != k2) = true := bne_iff_ne.2 h0
      clear h h0
      go_enter Try.func17, Try.ntmps17
      go_wp2
      go_ret
      exact ⟨rfl, below_two _ _ _⟩
  · have d : ¬ n1.toList = n2.toList := ctoList_ne h0
    clear h h0
    go_enter Try.func17, Try.ntmps17
    go_wp2
    go_ret
    exact ⟨rfl, below_two _ _ _⟩
/-- The second and the last part of two boxes. -/
structure Box2 (W : World) (g : Nat) (va vb vc vd : Value) : Prop where
  a6 : W.cell? ⟨g, 6, none⟩ = some va
  a7 : W.cell? ⟨g, 7, none⟩ = some vb
  b6 : W.cell? ⟨g + 1, 6, none⟩ = some vc
  b7 : W.cell? ⟨g + 1, 7, none⟩ = some vd
theorem Box2.drewN {W : World} {g : Nat} {va vb vc vd : Value} (h : Box2 W g va vb vc vd) (n : Nat) : Box2 (W.drewN n) g va vb vc vd := ⟨h.a6, h.a7, h.b6, h.b7⟩
theorem cell_new (W : World) (cs : Array Value) (t : TypeId) (j : Nat) : (W.alloc (.cells cs t)).cell? ⟨W.heap.size, j, none⟩ = cs[j]? := by
  unfold World.cell?
  rw [World.alloc_heap_new]
  rfl
theorem cell_new' (W : World) (o : Obj) (cs : Array Value) (t : TypeId) (j : Nat) : ((W.alloc o).alloc (.cells cs t)).cell? ⟨W.heap.size + 1, j, none⟩ = cs[j]? := by
  have h := cell_new (W.alloc o) cs t j
  have e : (W.alloc o).heap.size = W.heap.size + 1 := by show (W.heap.push o).size = _; simp
  rw [e] at h; exact h
theorem cell_old' (W : World) (o : Obj) (cs : Array Value) (t : TypeId) (j : Nat) : ((W.alloc (.cells cs t)).alloc o).cell? ⟨W.heap.size, j, none⟩ = cs[j]? := by
  have e : (W.alloc (.cells cs t)).heap.size = W.heap.size + 1 := by show (W.heap.push _).size = _; simp
  exact ((below_box (W.alloc (.cells cs t)) o).cell (p := ⟨W.heap.size, j, none⟩) (by rw [e]; exact Nat.lt_succ_self _)).trans (cell_new W cs t j)
theorem ndne {a b : Nd} (h : a ≠ b) : (a.x ≠ b.x) ∨ (a.x = b.x ∧ a.y ≠ b.y) ∨ (a.x = b.x ∧ a.y = b.y ∧ a.demand ≠ b.demand) ∨ (a.x = b.x ∧ a.y = b.y ∧ a.demand = b.demand ∧ a.ready ≠ b.ready) ∨ (a.x = b.x ∧ a.y = b.y ∧ a.demand = b.demand ∧ a.ready = b.ready ∧ a.due ≠ b.due) ∨ (a.x = b.x ∧ a.y = b.y ∧ a.demand = b.demand ∧ a.ready = b.ready ∧ a.due = b.due ∧ a.service ≠ b.service) ∨ (a.x = b.x ∧ a.y = b.y ∧ a.demand = b.demand ∧ a.ready = b.ready ∧ a.due = b.due ∧ a.service = b.service ∧ a.mate ≠ b.mate) := by
  obtain ⟨a0, a1, a2, a3, a4, a5, a6⟩ := a
  obtain ⟨b0, b1, b2, b3, b4, b5, b6⟩ := b
  simp only [ne_eq, Nd.mk.injEq] at h ⊢
  by_cases h0 : a0 = b0 <;> by_cases h1 : a1 = b1 <;> by_cases h2 : a2 = b2 <;> by_cases h3 : a3 = b3 <;> by_cases h4 : a4 = b4 <;> by_cases h5 : a5 = b5 <;> by_cases h6 : a6 = b6 <;> simp_all
set_option maxRecDepth 100000 in
set_option maxHeartbeats 4000000 in
theorem Try.rsame_body (x : Ins) (l2 : List Nd) (t2 : List Int) (an am bn bm : Option Addr) (cn cm dn dm : Nat) (w : World) (hl : x.nodes.length = l2.length) (ht : x.matrix.length = t2.length) (h1 : x.nodes.length ≤ 1000000) (h2 : x.matrix.length ≤ 1000000)
    (hx : x.nodes = [] ∨ ∃ b off, an = some ⟨b, off, none⟩ ∧ NodesAt w b off x.nodes) (hy : l2 = [] ∨ ∃ b off, bn = some ⟨b, off, none⟩ ∧ NodesAt w b off l2)
    (gx : x.matrix = [] ∨ ∃ b off, am = some ⟨b, off, none⟩ ∧ NumsAt w b off x.matrix) (gy : t2 = [] ∨ ∃ b off, bm = some ⟨b, off, none⟩ ∧ NumsAt w b off t2) :
    Calls Try.prog 17 #[insV x (.slice an x.nodes.length cn) (.slice am x.matrix.length cm), insV { x with nodes := l2, matrix := t2 } (.slice bn x.nodes.length dn) (.slice bm x.matrix.length dm)] w fun e w' => e = .returned (.bool (decide (x.nodes = l2) && decide (x.matrix = t2))) ∧ Below w.heap.size w w' := by
  unfold insV
  obtain ⟨n1, k1, m1, s1, c1, f1, l, t⟩ := x
  dsimp only at *
  have HX := Lib.hid hx
  have HY := Lib.hid hy
  have GX := Lib.hid gx
  have GY := Lib.hid gy
  obtain ⟨n, hn⟩ : ∃ n, l.length = n := ⟨_, rfl⟩
  obtain ⟨m, hm⟩ : ∃ m, t.length = m := ⟨_, rfl⟩
  rw [hn] at hl h1 ⊢
  rw [hm] at ht h2 ⊢
  have HN := Lib.hid hn
  have HM := Lib.hid hm
  have HN2 := Lib.hid hl
  have HM2 := Lib.hid ht
  clear hx hy gx gy hn hm hl ht
  go_enter Try.func17, Try.ntmps17
  go_wp2
  go_loopw [5] (fun i wr => ∃ k : Nat, k ≤ n ∧ i = .int .i64 (k : Int) ∧ Hid (l.take k = l2.take k) ∧ Box2 wr w.heap.size (.slice an n cn) (.slice am m cm) (.slice bn n dn) (.slice bm m dm) ∧ Below w.heap.size w wr) (fun i _ => n - (intOf i).toNat)
  case atStart => exact ⟨0, Nat.zero_le _, rfl, rfl, ⟨cell_old' _ _ _ _ _, cell_old' _ _ _ _ _, cell_new' _ _ _ _ _, cell_new' _ _ _ _ _⟩, below_two _ _ _⟩
  case round =>
    obtain ⟨k, hk, rfl, hT, hX, hB⟩ := hrel
    have HXX := Lib.hid hX
    obtain ⟨a6, a7, b6, b7⟩ := hX
    by_cases hlt : k < n
    · rcases HX.out with h0 | ⟨b, off, rfl, hd⟩
      · have := HN.out; rw [h0] at this; simp at this; omega
      rcases HY.out with h0 | ⟨b', off', rfl, hd'⟩
      · have := HN2.out; rw [h0] at this; simp at this; omega
      obtain ⟨x, hx⟩ : ∃ x, l[k]? = some x := ⟨_, List.getElem?_eq_getElem (by have := HN.out; omega)⟩
      obtain ⟨y, hy⟩ : ∃ y, l2[k]? = some y := ⟨_, List.getElem?_eq_getElem (by have := HN2.out; omega)⟩
      obtain ⟨x0, x1, x2, x3, x4, x5, x6⟩ := (hd.2 k x hx).below hB hd.1
      obtain ⟨y0, y1, y2, y3, y4, y5, y6⟩ := (hd'.2 k y hy).below hB hd'.1
      have hki : (k : Int) < (n : Int) := by omega
      clear hd hd'
      by_cases hxy : x = y
      · subst hxy
        have HT := Lib.hid (ctake_same hx hy hT.out)
        clear hx hy hT
        go_wp2
        go_quiet (fail)
        go_wp2
        go_roundw
        case rel => exact ⟨k + 1, by omega, by go_num, HT, HXX.out.drewN _, cbelow_drewN hB _⟩
        case measure => simp [intOf]; omega
      · have HF := Lib.hid (decide_eq_false (cne_at hx hy hxy))
        have HD := Lib.hid (ndne hxy)
        clear hx hy hT hxy
        obtain ⟨p0, p1, p2, p3, p4, p5, p6⟩ := x
        obtain ⟨q0, q1, q2, q3, q4, q5, q6⟩ := y
        dsimp only at x0 x1 x2 x3 x4 x5 x6 y0 y1 y2 y3 y4 y5 y6
        rcases HD.out with h0 | ⟨h0, h1⟩ | ⟨h0, h1, h2⟩ | ⟨h0, h1, h2, h3⟩ | ⟨h0, h1, h2, h3, h4⟩ | ⟨h0, h1, h2, h3, h4, h5⟩ | ⟨h0, h1, h2, h3, h4, h5, h6⟩ <;> dsimp only at *
        · have d : (p0 == q0) = false := beq_eq_false_iff_ne.2 h0
          clear h0 HD
          go_wp2
          go_quiet (fail)
          go_wp2
          go_ret
          exact ⟨cret_is (by rw [HF.out, Bool.false_and]), cbelow_drewN hB _⟩
        · subst h0; have d : (p1 == q1) = false := beq_eq_false_iff_ne.2 h1
          clear h1 HD
          go_wp2
          go_quiet (fail)
          go_wp2
          go_ret
          exact ⟨cret_is (by rw [HF.out, Bool.false_and]), cbelow_drewN hB _⟩
        · subst h0; subst h1; have d : (p2 == q2) = false := beq_eq_false_iff_ne.2 h2
          clear h2 HD
          go_wp2
          go_quiet (fail)
          go_wp2
          go_ret
          exact ⟨cret_is (by rw [HF.out, Bool.false_and]), cbelow_drewN hB _⟩
        · subst h0; subst h1; subst h2; have d : (p3 == q3) = false := beq_eq_false_iff_ne.2 h3
          clear h3 HD
          go_wp2
          go_quiet (fail)
          go_wp2
          go_ret
          exact ⟨cret_is (by rw [HF.out, Bool.false_and]), cbelow_drewN hB _⟩
        · subst h0; subst h1; subst h2; subst h3; have d : (p4 == q4) = false := beq_eq_false_iff_ne.2 h4
          clear h4 HD
          go_wp2
          go_quiet (fail)
          go_wp2
          go_ret
          exact ⟨cret_is (by rw [HF.out, Bool.false_and]), cbelow_drewN hB _⟩
        · subst h0; subst h1; subst h2; subst h3; subst h4; have d : (p5 == q5) = false := beq_eq_false_iff_ne.2 h5
          clear h5 HD
          go_wp2
          go_quiet (fail)
          go_wp2
          go_ret
          exact ⟨cret_is (by rw [HF.out, Bool.false_and]), cbelow_drewN hB _⟩
        · subst h0; subst h1; subst h2; subst h3; subst h4; subst h5; have d : (p6 == q6) = false := beq_eq_false_iff_ne.2 h6
          clear h6 HD
          go_wp2
          go_quiet (fail)
          go_wp2
          go_ret
          exact ⟨cret_is (by rw [HF.out, Bool.false_and]), cbelow_drewN hB _⟩
    · obtain rfl : k = n := by omega
      have HF : Hid (decide (l = l2) = true) := by
        unfold Hid
        have h := hT.out
        rw [List.take_of_length_le (by have := HN.out; omega), List.take_of_length_le (by have := HN2.out; omega)] at h
        exact decide_eq_true h
      clear hT
      go_wp2
      go_loopw [6] (fun i ws => ∃ j : Nat, j ≤ m ∧ i = .int .i64 (j : Int) ∧ Hid (t.take j = t2.take j) ∧ Box2 ws w.heap.size (.slice an k cn) (.slice am m cm) (.slice bn k dn) (.slice bm m dm) ∧ Below w.heap.size w ws) (fun i _ => m - (intOf i).toNat)
      case atStart => exact ⟨0, Nat.zero_le _, rfl, rfl, HXX.out, hB⟩
      case round =>
        clear a6 a7 b6 b7 HXX hB
        obtain ⟨j, hj, rfl, hT, hX, hB⟩ := hrel
        have HXX := Lib.hid hX
        obtain ⟨a6, a7, b6, b7⟩ := hX
        by_cases hlt : j < m
        · rcases GX.out with h0 | ⟨b, off, rfl, hd⟩
          · have := HM.out; rw [h0] at this; simp at this; omega
          rcases GY.out with h0 | ⟨b', off', rfl, hd'⟩
          · have := HM2.out; rw [h0] at this; simp at this; omega
          obtain ⟨x, hx⟩ : ∃ x, t[j]? = some x := ⟨_, List.getElem?_eq_getElem (by have := HM.out; omega)⟩
          obtain ⟨y, hy⟩ : ∃ y, t2[j]? = some y := ⟨_, List.getElem?_eq_getElem (by have := HM2.out; omega)⟩
          have x0 := (hB.cell (p := ⟨b, off + j, none⟩) hd.1).trans (hd.2 j x hx)
          have y0 := (hB.cell (p := ⟨b', off' + j, none⟩) hd'.1).trans (hd'.2 j y hy)
          have hki : (j : Int) < (m : Int) := by omega
          clear hd hd'
          by_cases hxy : x = y
          · subst hxy
            have HT := Lib.hid (ctake_same hx hy hT.out)
            clear hx hy hT
            go_wp2
            go_quiet (fail)
            go_wp2
            go_roundw
            case rel => exact ⟨j + 1, by omega, by go_num, HT, HXX.out.drewN _, cbelow_drewN hB _⟩
            case measure => simp [intOf]; omega
          · have HG := Lib.hid (decide_eq_false (cne_at hx hy hxy))
            have d : (x != y) = true := bne_iff_ne.2 hxy
            clear hx hy hT hxy
            go_wp2
            go_quiet (fail)
            go_wp2
            go_ret
            exact ⟨cret_is (by rw [HG.out, Bool.and_false]), cbelow_drewN hB _⟩
        · obtain rfl : j = m := by omega
          have HG : Hid (decide (t = t2) = true) := by
            unfold Hid
            have h := hT.out
            rw [List.take_of_length_le (by have := HM.out; omega), List.take_of_length_le (by have := HM2.out; omega)] at h
            exact decide_eq_true h
          clear hT
          go_wp2
          go_ret
          exact ⟨cret_is (by rw [HF.out, HG.out]; rfl), hB⟩
theorem Try.rsame_calls (x y : Ins) (vn vm un um : Value) (w : World) (hx : HasIns w vn vm x) (hy : HasIns w un um y) (h1 : x.nodes.length ≤ 1000000) (h2 : x.matrix.length ≤ 1000000) :
    Calls Try.prog 17 #[insV x vn vm, insV y un um] w fun e w' => e = .returned (.bool (decide (x = y))) ∧ Below w.heap.size w w' := by
  obtain ⟨an, cn, rfl, hxn⟩ := hx.nodes.dat
  obtain ⟨am, cm, rfl, hxm⟩ := hx.matrix.dat
  obtain ⟨bn, dn, rfl, hyn⟩ := hy.nodes.dat
  obtain ⟨bm, dm, rfl, hym⟩ := hy.matrix.dat
  clear hx hy
  by_cases h : x.name = y.name ∧ x.kind = y.kind ∧ x.metric = y.metric ∧ x.scale = y.scale ∧ x.cap = y.cap ∧ x.fleet = y.fleet ∧ x.nodes.length = y.nodes.length ∧ x.matrix.length = y.matrix.length
  · obtain ⟨n1, k1, m1, s1, c1, f1, l1, t1⟩ := x
    obtain ⟨n2, k2, m2, s2, c2, f2, l2, t2⟩ := y
    dsimp only at *
    obtain ⟨rfl, rfl, rfl, rfl, rfl, rfl, hl, ht⟩ := h
    have e : decide (Ins.mk n1 k1 m1 s1 c1 f1 l1 t1 = Ins.mk n1 k1 m1 s1 c1 f1 l2 t2) = (decide (l1 = l2) && decide (t1 = t2)) := by
      rw [Bool.eq_iff_iff]; simp
    rw [e]
    have := Try.rsame_body ⟨n1, k1, m1, s1, c1, f1, l1, t1⟩ l2 t2 an am bn bm cn cm dn dm w hl ht h1 h2 hxn hyn hxm hym
    dsimp only at this
    rw [← hl, ← ht]
    exact this
  · rw [decide_eq_false (fun e => h (by rw [e]; exact ⟨rfl, rfl, rfl, rfl, rfl, rfl, rfl, rfl⟩))]
    exact Try.rsame_head x y an am bn bm cn cm dn dm w h
end Go.Proofs
