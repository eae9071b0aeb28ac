/- The document's own trimmed of this program, as a contract. Conditions: a text of at most two million bytes; a part of it. -/
import Derived.Test.YtlgdhopiifoikaaTrim
import Derived.Deep.LoopGhost
namespace Go.Proofs
open Go.RowKit Go.Shelf Go.Wds

/-- A block of two cells that may be written. -/
def Two (W : World) (b : Nat) (x y : Value) : Prop := W.cell? ⟨b, 0, none⟩ = some x ∧ W.cell? ⟨b, 1, none⟩ = some y ∧ W.frozen? ⟨b, 0, none⟩ = false ∧ W.frozen? ⟨b, 1, none⟩ = false
theorem Two.set0 {W : World} {b : Nat} {x y : Value} (h : Two W b x y) (u : Value) : Two (W.setCell ⟨b, 0, none⟩ u) b u y :=
  ⟨World.cell?_setCell_same _ _ _ h.1, (World.cell?_setCell_other _ _ _ _ (fun e => by injection e with _ e2; cases e2)).trans h.2.1, by rw [World.frozen?_setCell]; exact h.2.2.1, by rw [World.frozen?_setCell]; exact h.2.2.2⟩
theorem Two.set1 {W : World} {b : Nat} {x y : Value} (h : Two W b x y) (u : Value) : Two (W.setCell ⟨b, 1, none⟩ u) b x u :=
  ⟨(World.cell?_setCell_other _ _ _ _ (fun e => by injection e with _ e2; cases e2)).trans h.1, World.cell?_setCell_same _ _ _ h.2.1, by rw [World.frozen?_setCell]; exact h.2.2.1, by rw [World.frozen?_setCell]; exact h.2.2.2⟩
theorem Two.far {W : World} {b b' j : Nat} {x y : Value} (h : Two W b x y) (hb : b' ≠ b) (u : Value) : Two (W.setCell ⟨b', j, none⟩ u) b x y :=
  ⟨(World.cell?_setCell_other _ _ _ _ (fun e => hb (by injection e))).trans h.1, (World.cell?_setCell_other _ _ _ _ (fun e => hb (by injection e))).trans h.2.1, by rw [World.frozen?_setCell]; exact h.2.2.1, by rw [World.frozen?_setCell]; exact h.2.2.2⟩
theorem Two.later {W W' : World} {b n : Nat} {x y : Value} (h : Two W b x y) (hb : Below n W W') (hn : b < n) : Two W' b x y :=
  ⟨(hb.cell (p := ⟨b, 0, none⟩) hn).trans h.1, (hb.cell (p := ⟨b, 1, none⟩) hn).trans h.2.1, (hb.frozen (p := ⟨b, 0, none⟩) hn).trans h.2.2.1, (hb.frozen (p := ⟨b, 1, none⟩) hn).trans h.2.2.2⟩
theorem Two.new (w : World) (x y : Value) (t : TypeId) : Two (w.alloc (.cells #[x, y] t)) w.heap.size x y := by
  obtain ⟨h1, h2, h3, h4, _⟩ := pair_own (w := w) (x := x) (y := y) (t := t) (Below.refl _ _)
  exact ⟨h1, h2, h3, h4⟩

set_option maxRecDepth 100000 in
set_option maxHeartbeats 2000000 in
theorem Try.rtrim_calls (s : ByteArray) (a b : Nat) (w : World) (hab : a ≤ b) (hb : b ≤ s.size) (hs : s.size ≤ 2000000) :
    Calls Try.prog 35 #[.string s, .agg #[.int .i64 (a : Int), .int .i64 (b : Int)]] w fun e w' => e = .returned (.agg #[.int .i64 ((trimL s.data.toList a b).1 : Nat), .int .i64 ((trimL s.data.toList a b).2 : Nat)]) ∧ Below w.heap.size w w' := by
  have HL := Lib.hid (show s.data.toList.length = s.size by simp)
  have HU := Lib.hid fun F T (h : IsTrim s.data.toList a b F T) => trim_unique (l := s.data.toList) (by rw [HL.out]; exact hb) h (is_trim hab (by rw [HL.out]; exact hb))
  go_enter Try.func35, Try.ntmps35
  go_wp2
  have k1 : Below w.heap.size w (w.alloc (.cells #[.int .i64 (a : Int), .int .i64 (b : Int)] 33)) := (Below.refl _ _).alloc (Nat.le_refl _) _
  have k2 : Below (w.heap.size + 1) (w.alloc (.cells #[.int .i64 (a : Int), .int .i64 (b : Int)] 33)) ((w.alloc (.cells #[.int .i64 (a : Int), .int .i64 (b : Int)] 33)).alloc (.cells #[.int .i64 0, .int .i64 0] 33)) := (Below.refl _ _).alloc (by simp) _
  have t1 := (Two.new w (.int .i64 (a : Int)) (.int .i64 (b : Int)) 33).later k2 (by omega)
  have t2 := Two.new (w.alloc (.cells #[.int .i64 (a : Int), .int .i64 (b : Int)] 33)) (.int .i64 0) (.int .i64 0) 33
  rw [show (w.alloc (.cells #[.int .i64 (a : Int), .int .i64 (b : Int)] 33)).heap.size = w.heap.size + 1 from by simp] at t2
  have kB := k1.trans (k2.mono (by omega))
  clear k1 k2
  go_loopg [] b (fun gf wr => ∃ k : Nat, a ≤ k ∧ k ≤ b ∧ Blank s.data.toList a k ∧ Two wr w.heap.size (.int .i64 (k : Int)) (.int .i64 (b : Int)) ∧ Two wr (w.heap.size + 1) (.int .i64 0) (.int .i64 0) ∧ Below w.heap.size w wr ∧ b ≤ k + gf)
  case atStart => exact ⟨a, Nat.le_refl _, hab, fun j x h1 h2 => by omega, t1, t2, kB, by omega⟩
  case round =>
    clear t1 t2 kB
    obtain ⟨k, hak, hkb, hbl, t1, t2, kB, hgk⟩ := hrel
    obtain ⟨c0, c1, f0, f1⟩ := t1
    by_cases hlt : k < b
    · have hks : k < s.size := by omega
      have hc := Try.blank_calls (s[k]'hks) wr
      have hg := list_get s k hks
      cases hbk : blk (s[k]'hks) with
      | true =>
        rw [hbk] at hc
        have HC := Lib.hid hc
        have HB := Lib.hid (show Blank s.data.toList a (k + 1) from fun j x h1 h2 h3 => by
          by_cases e : j = k
          · subst e; rw [hg] at h3; cases h3; exact hbk
          · exact hbl j x h1 (by omega) h3)
        have T1 := Lib.hid t2
        have T0 := Lib.hid (show Two wr w.heap.size (.int .i64 (k : Int)) (.int .i64 (b : Int)) from ⟨c0, c1, f0, f1⟩)
        obtain ⟨g', rfl⟩ : ∃ g', gk = g' + 1 := ⟨gk - 1, by omega⟩
        clear hbl hc hbk hg t2
        go_wp2_with (go_at_call 30; (with_reducible refine HC.out.mono ?_); rintro e w2 ⟨rfl, rfl⟩)
        have hT := T0.out.set0 (.int .i64 ((k : Int) + 1))
        go_roundg g'
        case measure => omega
        case rel => exact ⟨k + 1, by omega, by omega, HB.out, by simpa using hT, T1.out.far (by omega) _, kB.setCell (Nat.le_refl _) _, by omega⟩
      | false =>
        rw [hbk] at hc
        have HC := Lib.hid hc
        have HX := Lib.hid (show k < b → ∃ c, s.data.toList[k]? = some c ∧ blk c = false from fun _ => ⟨_, hg, hbk⟩)
        have HB := Lib.hid hbl
        have T0 := Lib.hid (show Two wr w.heap.size (.int .i64 (k : Int)) (.int .i64 (b : Int)) from ⟨c0, c1, f0, f1⟩)
        have T1 := Lib.hid t2
        clear hc hbk hg hbl t2
        go_wp2_with (go_at_call 30; (with_reducible refine HC.out.mono ?_); rintro e w2 ⟨rfl, hw2⟩; obtain rfl : wr = w2 := hw2.symm)
        clear c0 c1 f0 f1 HC hlt
        obtain ⟨wo, rfl⟩ : ∃ wo : World, wo = wr := ⟨_, rfl⟩
        go_loopg [] b (fun gf wr => ∃ t : Nat, k ≤ t ∧ t ≤ b ∧ Hid (Blank s.data.toList t b) ∧ Two wr w.heap.size (.int .i64 (k : Int)) (.int .i64 (t : Int)) ∧ Two wr (w.heap.size + 1) (.int .i64 0) (.int .i64 0) ∧ Below w.heap.size w wr ∧ t ≤ k + gf)
        case atStart => exact ⟨b, hkb, Nat.le_refl _, Lib.hid (fun j x h1 h2 => by omega), T0.out, T1.out, kB, by omega⟩
        case round =>
          clear T0 T1 kB hgk
          obtain ⟨t, hkt, htb, HE, t1, t2, kB, hgt⟩ := hrel
          obtain ⟨c0, c1, f0, f1⟩ := t1
          by_cases hlt2 : k < t
          · obtain ⟨u, rfl⟩ : ∃ u, t = u + 1 := ⟨t - 1, by omega⟩
            have hus : u < s.size := by omega
            have hc := Try.blank_calls (s[u]'hus) wr
            have hg := list_get s u hus
            have hku : k ≤ u := by omega
            cases hbk : blk (s[u]'hus) with
            | true =>
              rw [hbk] at hc
              have HC2 := Lib.hid hc
              have HB2 := Lib.hid (show Blank s.data.toList u b from fun j x h1 h2 h3 => by
                by_cases e : j = u
                · subst e; rw [hg] at h3; cases h3; exact hbk
                · exact HE.out j x (by omega) h2 h3)
              have T1 := Lib.hid t2
              have T0 := Lib.hid (show Two wr w.heap.size (.int .i64 (k : Int)) (.int .i64 ((u + 1 : Nat) : Int)) from ⟨c0, c1, f0, f1⟩)
              obtain ⟨g', rfl⟩ : ∃ g', gk = g' + 1 := ⟨gk - 1, by omega⟩
              clear hc hbk hg t2
              go_wp2_with (go_at_call 30; (with_reducible refine HC2.out.mono ?_); rintro e w2 ⟨rfl, hw2⟩; obtain rfl : wr = w2 := hw2.symm)
              have hT := T0.out.set1 (.int .i64 (u : Int))
              go_roundg g'
              case measure => omega
              case rel => exact ⟨u, by omega, by omega, HB2, by simpa using hT, T1.out.far (by omega) _, kB.setCell (Nat.le_refl _) _, by omega⟩
            | false =>
              rw [hbk] at hc
              have HC2 := Lib.hid hc
              have HT := Lib.hid (HU.out k (u + 1) ⟨hak, by omega, htb, HB.out, HE.out, fun e => by omega, fun _ => ⟨fun x hx => by
                obtain ⟨c, h1, h2⟩ := HX.out (by omega)
                rw [h1] at hx; cases hx; exact h2, fun x hx => by
                rw [Nat.add_sub_cancel, hg] at hx; cases hx; exact hbk⟩⟩)
              obtain ⟨r0, r1, r2, r3⟩ := t2
              clear hc hbk hg
              go_wp2_with (go_at_call 30; (with_reducible refine HC2.out.mono ?_); rintro e w2 ⟨rfl, hw2⟩; obtain rfl : wr = w2 := hw2.symm)
              refine bodyPost_ret (v := .agg #[.int .i64 (k : Nat), .int .i64 ((u + 1 : Nat) : Int)]) (by simp [results, Try.results35, go_sem, r0, r1]) rfl ⟨by rw [HT.out.1, HT.out.2], ?_⟩
              exact (kB.setCell (by simp) _).setCell (by simp) _
          · have hkt2 : t = k := by omega
            subst hkt2
            have HT := Lib.hid (HU.out t t ⟨hak, Nat.le_refl _, htb, HB.out, HE.out, fun _ => by
              rcases Nat.lt_or_ge t b with h | h
              · obtain ⟨c, h1, h2⟩ := HX.out h
                have := HE.out t c (Nat.le_refl _) h h1
                rw [h2] at this; cases this
              · omega, fun h => by omega⟩)
            obtain ⟨r0, r1, r2, r3⟩ := t2
            go_wp2
            refine bodyPost_ret (v := .agg #[.int .i64 (t : Nat), .int .i64 (t : Nat)]) (by simp [results, Try.results35, go_sem, r0, r1]) rfl ⟨by rw [← HT.out.1, ← HT.out.2], ?_⟩
            exact (kB.setCell (by simp) _).setCell (by simp) _
    · have HX := Lib.hid (show k < b → ∃ c, s.data.toList[k]? = some c ∧ blk c = false from fun h => absurd h hlt)
      have HB := Lib.hid hbl
      have T0 := Lib.hid (show Two wr w.heap.size (.int .i64 (k : Int)) (.int .i64 (b : Int)) from ⟨c0, c1, f0, f1⟩)
      have T1 := Lib.hid t2
      clear hbl t2
      go_wp2
      clear c0 c1 f0 f1 hlt
      obtain ⟨wo, rfl⟩ : ∃ wo : World, wo = wr := ⟨_, rfl⟩
      go_loopg [] b (fun gf wr => ∃ t : Nat, k ≤ t ∧ t ≤ b ∧ Hid (Blank s.data.toList t b) ∧ Two wr w.heap.size (.int .i64 (k : Int)) (.int .i64 (t : Int)) ∧ Two wr (w.heap.size + 1) (.int .i64 0) (.int .i64 0) ∧ Below w.heap.size w wr ∧ t ≤ k + gf)
      case atStart => exact ⟨b, hkb, Nat.le_refl _, Lib.hid (fun j x h1 h2 => by omega), T0.out, T1.out, kB, by omega⟩
      case round =>
        clear T0 T1 kB hgk
        obtain ⟨t, hkt, htb, HE, t1, t2, kB, hgt⟩ := hrel
        obtain ⟨c0, c1, f0, f1⟩ := t1
        by_cases hlt2 : k < t
        · obtain ⟨u, rfl⟩ : ∃ u, t = u + 1 := ⟨t - 1, by omega⟩
          have hus : u < s.size := by omega
          have hc := Try.blank_calls (s[u]'hus) wr
          have hg := list_get s u hus
          have hku : k ≤ u := by omega
          cases hbk : blk (s[u]'hus) with
          | true =>
            rw [hbk] at hc
            have HC2 := Lib.hid hc
            have HB2 := Lib.hid (show Blank s.data.toList u b from fun j x h1 h2 h3 => by
              by_cases e : j = u
              · subst e; rw [hg] at h3; cases h3; exact hbk
              · exact HE.out j x (by omega) h2 h3)
            have T1 := Lib.hid t2
            have T0 := Lib.hid (show Two wr w.heap.size (.int .i64 (k : Int)) (.int .i64 ((u + 1 : Nat) : Int)) from ⟨c0, c1, f0, f1⟩)
            obtain ⟨g', rfl⟩ : ∃ g', gk = g' + 1 := ⟨gk - 1, by omega⟩
            clear hc hbk hg t2
            go_wp2_with (go_at_call 30; (with_reducible refine HC2.out.mono ?_); rintro e w2 ⟨rfl, hw2⟩; obtain rfl : wr = w2 := hw2.symm)
            have hT := T0.out.set1 (.int .i64 (u : Int))
            go_roundg g'
            case measure => omega
            case rel => exact ⟨u, by omega, by omega, HB2, by simpa using hT, T1.out.far (by omega) _, kB.setCell (Nat.le_refl _) _, by omega⟩
          | false =>
            rw [hbk] at hc
            have HC2 := Lib.hid hc
            have HT := Lib.hid (HU.out k (u + 1) ⟨hak, by omega, htb, HB.out, HE.out, fun e => by omega, fun _ => ⟨fun x hx => by
              obtain ⟨c, h1, h2⟩ := HX.out (by omega)
              rw [h1] at hx; cases hx; exact h2, fun x hx => by
              rw [Nat.add_sub_cancel, hg] at hx; cases hx; exact hbk⟩⟩)
            obtain ⟨r0, r1, r2, r3⟩ := t2
            clear hc hbk hg
            go_wp2_with (go_at_call 30; (with_reducible refine HC2.out.mono ?_); rintro e w2 ⟨rfl, hw2⟩; obtain rfl : wr = w2 := hw2.symm)
            refine bodyPost_ret (v := .agg #[.int .i64 (k : Nat), .int .i64 ((u + 1 : Nat) : Int)]) (by simp [results, Try.results35, go_sem, r0, r1]) rfl ⟨by rw [HT.out.1, HT.out.2], ?_⟩
            exact (kB.setCell (by simp) _).setCell (by simp) _
        · have hkt2 : t = k := by omega
          subst hkt2
          have HT := Lib.hid (HU.out t t ⟨hak, Nat.le_refl _, htb, HB.out, HE.out, fun _ => by
            rcases Nat.lt_or_ge t b with h | h
            · obtain ⟨c, h1, h2⟩ := HX.out h
              have := HE.out t c (Nat.le_refl _) h h1
              rw [h2] at this; cases this
            · omega, fun h => by omega⟩)
          obtain ⟨r0, r1, r2, r3⟩ := t2
          go_wp2
          refine bodyPost_ret (v := .agg #[.int .i64 (t : Nat), .int .i64 (t : Nat)]) (by simp [results, Try.results35, go_sem, r0, r1]) rfl ⟨by rw [← HT.out.1, ← HT.out.2], ?_⟩
          exact (kB.setCell (by simp) _).setCell (by simp) _
#print axioms Try.rtrim_calls
end Go.Proofs
