/- words.Key of this program, as a contract. Conditions: a text of at most two million bytes. -/
import Derived.Test.YtlgdhopiifoikaaTrim
import Derived.Test.YtlgdhopiifoikaaNames
namespace Go.Wds
open Go.Proofs
def sColon : ByteArray := ⟨#[58]⟩
def sUnder : ByteArray := ⟨#[95]⟩
theorem low_colon : Low sColon := by unfold Low; decide
theorem low_under : Low sUnder := by unfold Low; decide
def colB (c : UInt8) : Bool := c == 58
theorem of_colon : ofB (has sColon) = colB := by
  funext c
  show ((58 == c.toNat) || false) = (c == 58)
  rw [Bool.or_false, Bool.eq_iff_iff, beq_iff_eq, beq_iff_eq, ← UInt8.toNat_inj]
  exact ⟨fun h => h.symm, fun h => h.symm⟩
def keyP : Nat → Bool := anyOf [between 65 90, between 48 57, has sUnder]
theorem flat_key : Flat keyP := flat_any (by
  intro p hp
  simp only [List.mem_cons, List.not_mem_nil, or_false] at hp
  rcases hp with rfl | rfl | rfl
  · exact flat_between (by decide)
  · exact flat_between (by decide)
  · exact flat_has2 low_under)
theorem keyP_eq (n : Nat) : keyP n = decide ((65 ≤ n ∧ n ≤ 90) ∨ (48 ≤ n ∧ n ≤ 57) ∨ n = 95) := by
  show ((decide (65 ≤ n) && decide (n ≤ 90)) || ((decide (48 ≤ n) && decide (n ≤ 57)) || (((95 == n) || false) || false))) = _
  rw [Bool.eq_iff_iff]
  simp only [Bool.or_eq_true, Bool.and_eq_true, decide_eq_true_iff, beq_iff_eq, Bool.false_eq_true, or_false]
  omega
/-- What Key tells, as a value. -/
def keyV (k : ByteArray) (i j : Nat) (b : Bool) : Value := .tuple #[.string k, .agg #[.int .i64 (i : Int), .int .i64 (j : Int)], .bool b]
/-- The key of the part, without blanks. -/
def keyPart (s : ByteArray) (a b : Nat) : ByteArray := s.extract (trimL s.data.toList a (seekL colB s.data.toList a b)).1 (trimL s.data.toList a (seekL colB s.data.toList a b)).2
def isKey (k : ByteArray) : Bool := fitL (ofB keyP) k.data.toList
/-- What Key tells of any part: what there is none of is none. -/
inductive KeyIs (s : ByteArray) : Int → Int → ByteArray → Nat → Nat → Bool → Prop
  | out (a b : Int) : Go.Proofs.inB s.size a b = false → KeyIs s a b ⟨#[]⟩ 0 0 false
  | none (a b : Nat) : a ≤ b → b ≤ s.size → isKey (keyPart s a b) = false → KeyIs s a b ⟨#[]⟩ 0 0 false
  | alone (a b : Nat) : a ≤ b → b ≤ s.size → isKey (keyPart s a b) = true → seekL colB s.data.toList a b = b → KeyIs s a b (keyPart s a b) b b true
  | both (a b : Nat) : a ≤ b → b ≤ s.size → isKey (keyPart s a b) = true → seekL colB s.data.toList a b < b →
      KeyIs s a b (keyPart s a b) (trimL s.data.toList (seekL colB s.data.toList a b + 1) b).1 (trimL s.data.toList (seekL colB s.data.toList a b + 1) b).2 true
theorem key_is (s : ByteArray) (a b : Int) : ∃ k i j t, KeyIs s a b k i j t := by
  cases h : Go.Proofs.inB s.size a b with
  | false => exact ⟨_, _, _, _, .out a b h⟩
  | true =>
    obtain ⟨x, y, rfl, rfl, hxy, hy⟩ := inB_out h
    cases hk : isKey (keyPart s x y) with
    | false => exact ⟨_, _, _, _, .none x y hxy hy hk⟩
    | true =>
      rcases Nat.lt_or_ge (seekL colB s.data.toList x y) y with h1 | h1
      · exact ⟨_, _, _, _, .both x y hxy hy hk h1⟩
      · exact ⟨_, _, _, _, .alone x y hxy hy hk (Nat.le_antisymm (seek_le hxy) h1)⟩
end Go.Wds
namespace Go.Proofs
open Go.RowKit Go.Shelf Go.Wds

theorem Try.oneColon (w : World) : Calls Try.prog 26 #[.string { data := #[58] }] w fun e w' => ∃ v, e = .returned v ∧ IsClass v (has sColon) w' ∧ Below w.heap.size w w' := Try.oneOf_calls sColon w low_colon
theorem Try.oneUnder (w : World) : Calls Try.prog 26 #[.string { data := #[95] }] w fun e w' => ∃ v, e = .returned v ∧ IsClass v (has sUnder) w' ∧ Below w.heap.size w w' := Try.oneOf_calls sUnder w low_under
theorem Try.seekColon {v : Value} (s : ByteArray) (a b : Nat) (w : World) (hab : a ≤ b) (hbs : b ≤ s.size) (hs : s.size ≤ 2000000) (hv : IsClass v (has sColon) w) :
    Calls Try.prog 28 #[.string s, .int .i64 (a : Int), .int .i64 (b : Int), v] w fun e w' => e = .returned (.int .i64 (seekL colB s.data.toList a b : Nat)) ∧ Below w.heap.size w w' := by
  have := Try.seek_calls s a b w hab hbs hs (flat_has2 low_colon) hv
  rwa [of_colon] at this
theorem Try.textN (s : ByteArray) (a b : Nat) (w : World) (hab : a ≤ b) (hb : b ≤ s.size) :
    Calls Try.prog 15 #[.string s, .agg #[.int .i64 (a : Int), .int .i64 (b : Int)]] w fun e w' => e = .returned (.string (s.extract a b)) ∧ Below w.heap.size w w' := by
  have := Try.Text_calls s (a : Int) (b : Int) w
  rwa [textI_nat hab hb] at this

set_option maxRecDepth 100000 in
theorem Try.Key_out (s : ByteArray) (a b : Int) (w : World) (h : inB s.size a b = false) :
    Calls Try.prog 17 #[.string s, .int .i64 a, .int .i64 b] w fun e w' => e = .returned (keyV ⟨#[]⟩ 0 0 false) ∧ Below w.heap.size w w' := by
  have hc := Lib.hid fun w => Try.inside_calls s a b w
  rw [h] at hc
  obtain ⟨r0, r1, f0, f1, hz⟩ := pair_own (Below.refl _ (w.alloc (.cells #[.int .i64 0, .int .i64 0] 31)))
  clear h
  go_enter Try.func17, Try.ntmps17
  go_wp2_with (go_at_call 25; (with_reducible refine (hc.out _).mono ?_); rintro e w1 ⟨rfl, hw1⟩; subst hw1)
  refine bodyPost_ret (v := keyV ⟨#[]⟩ 0 0 false) (by simp [results, Try.results17, go_sem, keyV]) rfl ⟨rfl, ?_⟩
  exact (Below.refl _ _).alloc (Nat.le_refl _) _

set_option maxRecDepth 100000 in
set_option maxHeartbeats 2000000 in
theorem Try.Key_none (s : ByteArray) (a b : Nat) (w : World) (hs : s.size ≤ 2000000) (hab : a ≤ b) (hb : b ≤ s.size) (hik : isKey (keyPart s a b) = false) :
    Calls Try.prog 17 #[.string s, .int .i64 (a : Int), .int .i64 (b : Int)] w fun e w' => e = .returned (keyV ⟨#[]⟩ 0 0 false) ∧ Below w.heap.size w w' := by
  have hown := fun w1 (h : Below (w.alloc (.cells #[.int .i64 0, .int .i64 0] 31)).heap.size (w.alloc (.cells #[.int .i64 0, .int .i64 0] 31)) w1) => pair_own h
  have HO := Lib.hid hown
  clear hown
  have hc := Lib.hid fun w => Try.inside_calls s (a : Int) (b : Int) w
  rw [inB_nat hab hb] at hc
  have hcb : seekL colB s.data.toList a b ≤ b := seek_le hab
  have hca : a ≤ seekL colB s.data.toList a b := seek_ge _ _ _ _
  obtain ⟨hF1, hF2, hF3, _⟩ := is_trim (l := s.data.toList) hca (by simp; omega)
  have C1 := Lib.hid fun v W (hv : IsClass v (has sColon) W) => Try.seekColon s a b W hab hb hs hv
  have C2 := Lib.hid fun W => Try.trim_calls s a (seekL colB s.data.toList a b) W hca (by omega) hs
  have C3 := Lib.hid fun W => Try.textN s (trimL s.data.toList a (seekL colB s.data.toList a b)).1 (trimL s.data.toList a (seekL colB s.data.toList a b)).2 W hF2 (by omega)
  have hks : (keyPart s a b).size ≤ 2000000 := by unfold keyPart; rw [extract_size' s hF2 (by omega)]; omega
  obtain ⟨⟨F, T⟩, hFT⟩ : ∃ FT, trimL s.data.toList a (seekL colB s.data.toList a b) = FT := ⟨_, rfl⟩
  have hK : s.extract F T = keyPart s a b := by unfold keyPart; rw [hFT]
  rw [hFT] at C2 C3
  simp only at C2 C3
  rw [hK] at C3
  obtain ⟨K, hK2⟩ : ∃ K, keyPart s a b = K := ⟨_, rfl⟩
  rw [hK2] at C3 hks hik
  try rw [hK2]
  have C4 := Lib.hid fun v W (hv : IsClass v keyP W) => Try.fits_calls K W hks flat_key hv
  rw [show fitL (ofB keyP) K.data.toList = isKey K from rfl, hik] at C4
  clear hFT hK hK2 hF1 hF2 hF3 hik
  go_enter Try.func17, Try.ntmps17
  go_wp2_with (go_at_call 25; (with_reducible refine (hc.out _).mono ?_); rintro e w1 ⟨rfl, hw1⟩; subst hw1)
  refine (Try.oneColon _).mono ?_
  rintro e w2 ⟨v2, rfl, hv, hb2⟩
  have H2 := Lib.hid hv
  obtain ⟨g2, l2, rfl, _⟩ := hv
  go_wp2_with (fail)
  refine (C1.out _ _ H2.out).mono ?_
  rintro e w3 ⟨rfl, hb3⟩
  go_wp2_with (fail)
  refine (C2.out _).mono ?_
  rintro e w4 ⟨rfl, hb4⟩
  go_wp2_with (fail)
  refine (C3.out _).mono ?_
  rintro e w5 ⟨rfl, hb5⟩
  have B5 := hb2.trans ((hb3.trans ((hb4.trans (hb5.mono hb4.size)).mono hb3.size)).mono hb2.size)
  clear hb2 hb3 hb4 hb5 H2 C1 C2 C3
  go_wp2_with (fail)
  refine (Try.spanAZ _).mono ?_
  rintro e w6 ⟨v6, rfl, hv, hb6⟩
  have H6 := Lib.hid hv
  obtain ⟨g6, l6, rfl, _⟩ := hv
  go_wp2_with (fail)
  refine (Try.span09 _).mono ?_
  rintro e w7 ⟨v7, rfl, hv, hb7⟩
  have H7 := Lib.hid hv
  obtain ⟨g7, l7, rfl, _⟩ := hv
  go_wp2_with (fail)
  refine (Try.oneUnder _).mono ?_
  rintro e w8 ⟨v8, rfl, hv, hb8⟩
  have H8 := Lib.hid hv
  obtain ⟨g8, l8, rfl, _⟩ := hv
  go_wp2_with (fail)
  refine (Try.either3 (H6.out.later (hb7.trans (hb8.mono hb7.size))) (H7.out.later hb8) H8.out).mono ?_
  rintro e w9 ⟨v9, rfl, hv, hb9⟩
  have H9 := Lib.hid hv
  obtain ⟨g9, l9, rfl, _⟩ := hv
  have B9 := B5.trans ((hb6.trans ((hb7.trans ((hb8.trans (hb9.mono hb8.size)).mono hb7.size)).mono hb6.size)).mono B5.size)
  clear hb6 hb7 hb8 hb9 H6 H7 H8 B5
  go_wp2_with (fail)
  refine (C4.out _ _ H9.out).mono ?_
  rintro e w10 ⟨rfl, hb10⟩
  have B10 := B9.trans (hb10.mono B9.size)
  clear B9 hb10 H9 C4
  obtain ⟨r0, r1, f0, f1, hz⟩ := HO.out _ B10
  have hB : Below w.heap.size w w10 := ((Below.refl _ _).alloc (Nat.le_refl _) _).trans (B10.mono (by simp))
  clear B10
  go_wp2
  refine bodyPost_ret (v := keyV ⟨#[]⟩ 0 0 false) (by simp [results, Try.results17, go_sem, keyV, r0, r1]) rfl ⟨rfl, ?_⟩
  exact (hB.setCell (by simp) _).setCell (by simp) _

set_option maxRecDepth 100000 in
set_option maxHeartbeats 2000000 in
theorem Try.Key_alone (s : ByteArray) (a b : Nat) (w : World) (hs : s.size ≤ 2000000) (hab : a ≤ b) (hb : b ≤ s.size) (hik : isKey (keyPart s a b) = true) (hcol : seekL colB s.data.toList a b = b) :
    Calls Try.prog 17 #[.string s, .int .i64 (a : Int), .int .i64 (b : Int)] w fun e w' => e = .returned (keyV (keyPart s a b) b b true) ∧ Below w.heap.size w w' := by
  have hown := fun w1 (h : Below (w.alloc (.cells #[.int .i64 0, .int .i64 0] 31)).heap.size (w.alloc (.cells #[.int .i64 0, .int .i64 0] 31)) w1) => pair_own h
  have HO := Lib.hid hown
  clear hown
  have hc := Lib.hid fun w => Try.inside_calls s (a : Int) (b : Int) w
  rw [inB_nat hab hb] at hc
  have hcb : seekL colB s.data.toList a b ≤ b := seek_le hab
  have hca : a ≤ seekL colB s.data.toList a b := seek_ge _ _ _ _
  obtain ⟨hF1, hF2, hF3, _⟩ := is_trim (l := s.data.toList) hca (by simp; omega)
  rw [hcol] at hcb hca hF1 hF2 hF3
  have hcolK : keyPart s a b = s.extract (trimL s.data.toList a b).1 (trimL s.data.toList a b).2 := by unfold keyPart; rw [hcol]
  have C1 := Lib.hid fun v W (hv : IsClass v (has sColon) W) => Try.seekColon s a b W hab hb hs hv
  rw [hcol] at C1
  have C2 := Lib.hid fun W => Try.trim_calls s a (b) W hca (by omega) hs
  have C3 := Lib.hid fun W => Try.textN s (trimL s.data.toList a (b)).1 (trimL s.data.toList a (b)).2 W hF2 (by omega)
  have hks : (keyPart s a b).size ≤ 2000000 := by rw [hcolK, extract_size' s hF2 (by omega)]; omega
  obtain ⟨⟨F, T⟩, hFT⟩ : ∃ FT, trimL s.data.toList a (b) = FT := ⟨_, rfl⟩
  have hK : s.extract F T = keyPart s a b := by rw [hcolK, hFT]
  rw [hFT] at C2 C3
  simp only at C2 C3
  rw [hK] at C3
  obtain ⟨K, hK2⟩ : ∃ K, keyPart s a b = K := ⟨_, rfl⟩
  rw [hK2] at C3 hks hik
  try rw [hK2]
  have C4 := Lib.hid fun v W (hv : IsClass v keyP W) => Try.fits_calls K W hks flat_key hv
  rw [show fitL (ofB keyP) K.data.toList = isKey K from rfl, hik] at C4
  clear hcolK hcol hFT hK hK2 hF1 hF2 hF3 hik
  go_enter Try.func17, Try.ntmps17
  go_wp2_with (go_at_call 25; (with_reducible refine (hc.out _).mono ?_); rintro e w1 ⟨rfl, hw1⟩; subst hw1)
  refine (Try.oneColon _).mono ?_
  rintro e w2 ⟨v2, rfl, hv, hb2⟩
  have H2 := Lib.hid hv
  obtain ⟨g2, l2, rfl, _⟩ := hv
  go_wp2_with (fail)
  refine (C1.out _ _ H2.out).mono ?_
  rintro e w3 ⟨rfl, hb3⟩
  go_wp2_with (fail)
  refine (C2.out _).mono ?_
  rintro e w4 ⟨rfl, hb4⟩
  go_wp2_with (fail)
  refine (C3.out _).mono ?_
  rintro e w5 ⟨rfl, hb5⟩
  have B5 := hb2.trans ((hb3.trans ((hb4.trans (hb5.mono hb4.size)).mono hb3.size)).mono hb2.size)
  clear hb2 hb3 hb4 hb5 H2 C1 C2 C3
  go_wp2_with (fail)
  refine (Try.spanAZ _).mono ?_
  rintro e w6 ⟨v6, rfl, hv, hb6⟩
  have H6 := Lib.hid hv
  obtain ⟨g6, l6, rfl, _⟩ := hv
  go_wp2_with (fail)
  refine (Try.span09 _).mono ?_
  rintro e w7 ⟨v7, rfl, hv, hb7⟩
  have H7 := Lib.hid hv
  obtain ⟨g7, l7, rfl, _⟩ := hv
  go_wp2_with (fail)
  refine (Try.oneUnder _).mono ?_
  rintro e w8 ⟨v8, rfl, hv, hb8⟩
  have H8 := Lib.hid hv
  obtain ⟨g8, l8, rfl, _⟩ := hv
  go_wp2_with (fail)
  refine (Try.either3 (H6.out.later (hb7.trans (hb8.mono hb7.size))) (H7.out.later hb8) H8.out).mono ?_
  rintro e w9 ⟨v9, rfl, hv, hb9⟩
  have H9 := Lib.hid hv
  obtain ⟨g9, l9, rfl, _⟩ := hv
  have B9 := B5.trans ((hb6.trans ((hb7.trans ((hb8.trans (hb9.mono hb8.size)).mono hb7.size)).mono hb6.size)).mono B5.size)
  clear hb6 hb7 hb8 hb9 H6 H7 H8 B5
  go_wp2_with (fail)
  refine (C4.out _ _ H9.out).mono ?_
  rintro e w10 ⟨rfl, hb10⟩
  have B10 := B9.trans (hb10.mono B9.size)
  clear B9 hb10 H9 C4
  obtain ⟨r0, r1, f0, f1, hz⟩ := HO.out _ B10
  have hB : Below w.heap.size w w10 := ((Below.refl _ _).alloc (Nat.le_refl _) _).trans (B10.mono (by simp))
  clear B10
  go_wp2
  refine bodyPost_ret (v := keyV K b b true) (by simp [results, Try.results17, go_sem, keyV, r0, r1]) rfl ⟨rfl, ?_⟩
  exact (hB.setCell (by simp) _).setCell (by simp) _

set_option maxRecDepth 100000 in
set_option maxHeartbeats 2000000 in
theorem Try.Key_both (s : ByteArray) (a b : Nat) (w : World) (hs : s.size ≤ 2000000) (hab : a ≤ b) (hb : b ≤ s.size) (hik : isKey (keyPart s a b) = true) (hcol : seekL colB s.data.toList a b < b) :
    Calls Try.prog 17 #[.string s, .int .i64 (a : Int), .int .i64 (b : Int)] w fun e w' => e = .returned (keyV (keyPart s a b) (trimL s.data.toList (seekL colB s.data.toList a b + 1) b).1 (trimL s.data.toList (seekL colB s.data.toList a b + 1) b).2 true) ∧ Below w.heap.size w w' := by
  have hown := fun w1 (h : Below (w.alloc (.cells #[.int .i64 0, .int .i64 0] 31)).heap.size (w.alloc (.cells #[.int .i64 0, .int .i64 0] 31)) w1) => pair_own h
  have HO := Lib.hid hown
  clear hown
  have hc := Lib.hid fun w => Try.inside_calls s (a : Int) (b : Int) w
  rw [inB_nat hab hb] at hc
  have hcb : seekL colB s.data.toList a b ≤ b := seek_le hab
  have hca : a ≤ seekL colB s.data.toList a b := seek_ge _ _ _ _
  obtain ⟨hF1, hF2, hF3, _⟩ := is_trim (l := s.data.toList) hca (by simp; omega)
  have C1 := Lib.hid fun v W (hv : IsClass v (has sColon) W) => Try.seekColon s a b W hab hb hs hv
  have C2 := Lib.hid fun W => Try.trim_calls s a (seekL colB s.data.toList a b) W hca (by omega) hs
  have C3 := Lib.hid fun W => Try.textN s (trimL s.data.toList a (seekL colB s.data.toList a b)).1 (trimL s.data.toList a (seekL colB s.data.toList a b)).2 W hF2 (by omega)
  have hks : (keyPart s a b).size ≤ 2000000 := by unfold keyPart; rw [extract_size' s hF2 (by omega)]; omega
  have C5 := Lib.hid fun W => Try.trim_calls s (seekL colB s.data.toList a b + 1) b W hcol hb hs
  obtain ⟨⟨F2, T2⟩, hFT2⟩ : ∃ FT, trimL s.data.toList (seekL colB s.data.toList a b + 1) b = FT := ⟨_, rfl⟩
  rw [hFT2] at C5 ⊢
  simp only at C5 ⊢
  obtain ⟨⟨F, T⟩, hFT⟩ : ∃ FT, trimL s.data.toList a (seekL colB s.data.toList a b) = FT := ⟨_, rfl⟩
  have hK : s.extract F T = keyPart s a b := by unfold keyPart; rw [hFT]
  rw [hFT] at C2 C3
  simp only at C2 C3
  rw [hK] at C3
  obtain ⟨K, hK2⟩ : ∃ K, keyPart s a b = K := ⟨_, rfl⟩
  rw [hK2] at C3 hks hik
  try rw [hK2]
  have C4 := Lib.hid fun v W (hv : IsClass v keyP W) => Try.fits_calls K W hks flat_key hv
  rw [show fitL (ofB keyP) K.data.toList = isKey K from rfl, hik] at C4
  obtain ⟨c, hcc⟩ : ∃ c, seekL colB s.data.toList a b = c := ⟨_, rfl⟩
  rw [hcc] at C1 C2 C5 hcol
  have d1 : (c == b) = false := by rw [beq_eq_false_iff_ne]; omega
  have d2 : ((c : Int) == (b : Int)) = false := by rw [beq_eq_false_iff_ne]; omega
  have C6 : Hid (∀ W, Calls Try.prog 31 #[.string s, .int .i64 ((c : Int) + 1), .int .i64 (b : Int)] W fun e w' => e = .returned (.agg #[.int .i64 (F2 : Nat), .int .i64 (T2 : Nat)]) ∧ Below W.heap.size W w') := C5
  have hcs : c < 2000000 := by omega
  clear hcc hFT2 C5 hFT hK hK2 hF1 hF2 hF3 hik
  go_enter Try.func17, Try.ntmps17
  go_wp2_with (go_at_call 25; (with_reducible refine (hc.out _).mono ?_); rintro e w1 ⟨rfl, hw1⟩; subst hw1)
  refine (Try.oneColon _).mono ?_
  rintro e w2 ⟨v2, rfl, hv, hb2⟩
  have H2 := Lib.hid hv
  obtain ⟨g2, l2, rfl, _⟩ := hv
  go_wp2_with (fail)
  refine (C1.out _ _ H2.out).mono ?_
  rintro e w3 ⟨rfl, hb3⟩
  go_wp2_with (fail)
  refine (C2.out _).mono ?_
  rintro e w4 ⟨rfl, hb4⟩
  go_wp2_with (fail)
  refine (C3.out _).mono ?_
  rintro e w5 ⟨rfl, hb5⟩
  have B5 := hb2.trans ((hb3.trans ((hb4.trans (hb5.mono hb4.size)).mono hb3.size)).mono hb2.size)
  clear hb2 hb3 hb4 hb5 H2 C1 C2 C3
  go_wp2_with (fail)
  refine (Try.spanAZ _).mono ?_
  rintro e w6 ⟨v6, rfl, hv, hb6⟩
  have H6 := Lib.hid hv
  obtain ⟨g6, l6, rfl, _⟩ := hv
  go_wp2_with (fail)
  refine (Try.span09 _).mono ?_
  rintro e w7 ⟨v7, rfl, hv, hb7⟩
  have H7 := Lib.hid hv
  obtain ⟨g7, l7, rfl, _⟩ := hv
  go_wp2_with (fail)
  refine (Try.oneUnder _).mono ?_
  rintro e w8 ⟨v8, rfl, hv, hb8⟩
  have H8 := Lib.hid hv
  obtain ⟨g8, l8, rfl, _⟩ := hv
  go_wp2_with (fail)
  refine (Try.either3 (H6.out.later (hb7.trans (hb8.mono hb7.size))) (H7.out.later hb8) H8.out).mono ?_
  rintro e w9 ⟨v9, rfl, hv, hb9⟩
  have H9 := Lib.hid hv
  obtain ⟨g9, l9, rfl, _⟩ := hv
  have B9 := B5.trans ((hb6.trans ((hb7.trans ((hb8.trans (hb9.mono hb8.size)).mono hb7.size)).mono hb6.size)).mono B5.size)
  clear hb6 hb7 hb8 hb9 H6 H7 H8 B5
  go_wp2_with (fail)
  refine (C4.out _ _ H9.out).mono ?_
  rintro e w10 ⟨rfl, hb10⟩
  have B10 := B9.trans (hb10.mono B9.size)
  clear B9 hb10 H9 C4
  obtain ⟨r0, r1, f0, f1, hz⟩ := HO.out _ B10
  have hB : Below w.heap.size w w10 := ((Below.refl _ _).alloc (Nat.le_refl _) _).trans (B10.mono (by simp))
  clear r0 r1 f0 f1 hz hB
  go_wp2_with (fail)
  refine (C6.out _).mono ?_
  rintro e w11 ⟨rfl, hb11⟩
  have B11 := B10.trans (hb11.mono B10.size)
  obtain ⟨r0, r1, f0, f1, hz⟩ := HO.out _ B11
  have hB : Below w.heap.size w w11 := ((Below.refl _ _).alloc (Nat.le_refl _) _).trans (B11.mono (by simp))
  clear B10 B11 hb11
  go_wp2
  refine bodyPost_ret (v := keyV K F2 T2 true) (by simp [results, Try.results17, go_sem, keyV, r0, r1]) rfl ⟨rfl, ?_⟩
  exact (hB.setCell (by simp) _).setCell (by simp) _

theorem Try.Key_calls (s : ByteArray) (a b : Int) (k : ByteArray) (i j : Nat) (t : Bool) (w : World) (hs : s.size ≤ 2000000) (hk : KeyIs s a b k i j t) :
    Calls Try.prog 17 #[.string s, .int .i64 a, .int .i64 b] w fun e w' => e = .returned (keyV k i j t) ∧ Below w.heap.size w w' := by
  cases hk with
  | out _ _ h => exact Try.Key_out s a b w h
  | none x y h1 h2 h3 => exact Try.Key_none s x y w hs h1 h2 h3
  | alone x y h1 h2 h3 h4 => exact Try.Key_alone s _ _ w hs h1 h2 h3 h4
  | both x y h1 h2 h3 h4 => exact Try.Key_both s x y w hs h1 h2 h3 h4
#print axioms Try.Key_calls
end Go.Proofs
