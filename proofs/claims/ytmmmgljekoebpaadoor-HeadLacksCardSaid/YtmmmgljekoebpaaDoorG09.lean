/- Rows of a text as a slice holds them. No program. -/
import Derived.Test.YtmmmgljekoebpaaDoorG05
import Derived.Test.YtmmmgljekoebpaaDoorG08
import Derived.Test.YtmmmgljekoebpaaDoorG04
import Derived.Test.YtmmmgljekoebpaaDoorG07
namespace Go.Proofs
open Go.RowKit Go.Shelf Go.Hdr Go.Wds Go.Cur
theorem prow_cells3 {W : World} {base g n c : Nat} {e : TypeId} {L : List (Nat × Nat × Nat)} (h : W.ownsRow base e 3 (.slice (some ⟨g, 0, none⟩) n c) L.length (lineCells L)) {k a b d : Nat} (hk : L[k]? = some (a, b, d)) :
    W.cell? ⟨g, k * 3, none⟩ = some (.int .i64 (a : Nat)) ∧ W.cell? ⟨g, k * 3 + 1, none⟩ = some (.int .i64 (b : Nat)) ∧ W.cell? ⟨g, k * 3 + 2, none⟩ = some (.int .i64 (d : Nat)) := by
  have hc := World.ownsRow.cells h (g := g) rfl
  have hg : ∀ (L : List (Nat × Nat × Nat)) (k : Nat), L[k]? = some (a, b, d) → (lineCells L)[k * 3]? = some (.int .i64 (a : Nat)) ∧ (lineCells L)[k * 3 + 1]? = some (.int .i64 (b : Nat)) ∧ (lineCells L)[k * 3 + 2]? = some (.int .i64 (d : Nat)) := by
    intro L
    induction L with
    | nil => intro k hk; simp at hk
    | cons p L ih =>
      intro k hk
      cases k with
      | zero =>
        have e : p = (a, b, d) := by simpa using hk
        subst e
        exact ⟨rfl, rfl, rfl⟩
      | succ k =>
        have := ih k (by simpa using hk)
        have e : ∀ j, (lineCells (p :: L))[(k + 1) * 3 + j]? = (lineCells L)[k * 3 + j]? := fun j => by
          rw [show (k + 1) * 3 + j = (k * 3 + j) + 1 + 1 + 1 from by omega]; rfl
        exact ⟨(e 0).trans this.1, (e 1).trans this.2.1, (e 2).trans this.2.2⟩
  obtain ⟨h1, h2, h3⟩ := hg L k hk
  have g1 := hc _ _ h1
  have g2 := hc _ _ h2
  have g3 := hc _ _ h3
  rw [Addr.add_lit, Nat.zero_add] at g1 g2 g3
  exact ⟨g1, g2, g3⟩
theorem prows_at {W : World} {base n size : Nat} {e : TypeId} {v : Value} {xs : List Value} (h : W.ownsRow base e size v n xs) (hn : 0 < n) : ∃ g c, v = .slice (some ⟨g, 0, none⟩) n c ∧ g < W.heap.size := by
  rcases h.2 with ⟨rfl, h0⟩ | ⟨g, cap, cur, rfl, _, hg, _⟩
  · omega
  · exact ⟨g, cap, rfl, (Array.getElem?_eq_some_iff.1 hg).1⟩
theorem prow_cap {W : World} {base size n cap : Nat} {e : TypeId} {p : Addr} {xs : List Value} (h : W.ownsRow base e size (.slice (some p) n cap) n xs) : n ≤ cap ∧ cap ≤ maxLen := by
  rcases h.2 with ⟨h0, _⟩ | ⟨g, c, cur, hv, _, _, h1, h2, _⟩
  · cases h0
  · cases hv
    exact ⟨h1, h2⟩
/-- The first m of these rows, as a slice. -/
def HasRows (W : World) (v : Value) (m : Nat) (L : List (Nat × Nat × Nat)) (base : Nat) : Prop :=
  ∃ ao c, v = .slice ao m c ∧ (0 < m → ∃ g, ao = some ⟨g, 0, none⟩ ∧ base ≤ g ∧ g < W.heap.size ∧ ∀ k a b d, k < m → L[k]? = some (a, b, d) → W.cell? ⟨g, k * 3, none⟩ = some (.int .i64 (a : Nat)) ∧ W.cell? ⟨g, k * 3 + 1, none⟩ = some (.int .i64 (b : Nat)) ∧ W.cell? ⟨g, k * 3 + 2, none⟩ = some (.int .i64 (d : Nat)))
theorem HasRows.of {W : World} {base g n c m c' : Nat} {e : TypeId} {L : List (Nat × Nat × Nat)} (h : W.ownsRow base e 3 (.slice (some ⟨g, 0, none⟩) n c) L.length (lineCells L)) (hg : g < W.heap.size) : HasRows W (.slice (some ⟨g, 0, none⟩) m c') m L base :=
  ⟨_, _, rfl, fun _ => ⟨g, rfl, (h.lt g rfl).1, hg, fun _ _ _ _ _ hk => prow_cells3 h hk⟩⟩
end Go.Proofs
/- The landed head's split: the rows of the head, and the place behind them. Conditions: a text of at most a million bytes. -/
namespace Go.Hdr
open Go.Wds Go.AnyMap Go.Cur
/-- How many rows the head has, and where it ends. -/
def splitE (s : ByteArray) : List (Nat × Nat × Nat) → Nat × Nat
  | [] => (0, s.size)
  | r :: l => if endB (keyE s r.1 r.2.1).1 = true then (0, r.1) else ((splitE s l).1 + 1, (splitE s l).2)
theorem splitE_le (s : ByteArray) : ∀ L, (splitE s L).1 ≤ L.length := by
  intro L
  induction L with
  | nil => exact Nat.le_refl _
  | cons r l ih => unfold splitE; split; · exact Nat.zero_le _
                   · simp only [List.length_cons]; omega
theorem suffix_ends (K q : ByteArray) : Lib.hasSuffix K.data.toList q.data.toList = endsE K q := by
  have hl : ∀ B : ByteArray, B.data.toList.length = B.size := fun B => by simp
  have hx : (K.extract (K.size - q.size) K.size).data.toList = K.data.toList.drop (K.data.toList.length - q.data.toList.length) := by
    rw [hl, hl, ByteArray.data_extract, Array.toList_extract, List.extract_eq_take_drop, List.take_of_length_le]
    rw [List.length_drop, hl]
    omega
  rw [Bool.eq_iff_iff]
  unfold endsE
  rw [Bool.and_eq_true, decide_eq_true_iff, decide_eq_true_iff]
  unfold Lib.hasSuffix
  rw [List.isSuffixOf_iff_suffix]
  constructor
  · intro h
    refine ⟨by have := h.length_le; rwa [hl, hl] at this, ?_⟩
    apply ByteArray.ext
    apply Array.toList_inj.1
    rw [hx]
    exact (List.suffix_iff_eq_drop.1 h).symm
  · intro h
    rw [List.suffix_iff_eq_drop, ← hx, h.2]
end Go.Hdr
namespace Go.Proofs
open Go.RowKit Go.Shelf Go.Hdr Go.AnyMap Go.Wds Go.Cur
attribute [local go_sem] Oper.semAt_some
set_option linter.unusedVariables false
theorem below_drewN_h {B n : Nat} {a w : World} (h : Below B a w) : Below B a (w.drewN n) := ⟨h.os, h.tape, h.output, h.size, h.block⟩
set_option maxRecDepth 100000 in
set_option maxHeartbeats 8000000 in
theorem Tryd.hsplit_calls (s : ByteArray) (w : World) (hs : s.size ≤ 1000000) :
    Calls Tryd.prog 30 #[.string s] w fun e w' => ∃ v, e = .returned (.tuple #[v, .int .i64 ((splitE s (rowsOf s.data.toList)).2 : Nat)]) ∧ HasRows w' v (splitE s (rowsOf s.data.toList)).1 (rowsOf s.data.toList) w.heap.size ∧ Below w.heap.size w w' := by
  have RR := fun w => Tryd.Rows_calls s w (by omega)
  have hbd : ∀ r ∈ rowsOf s.data.toList, r.1 ≤ r.2.1 ∧ r.2.1 ≤ s.data.toList.length := rows_bd
  generalize hL : rowsOf s.data.toList = L at *
  have hsz : s.data.toList.length = s.size := by simp
  have hlen : L.length ≤ 1000001 := by rw [← hL]; exact Nat.le_trans (List.length_filter_le _ _) (Nat.le_trans (lines_len s) (by omega))
  rw [hsz] at hbd
  have RK := Lib.hid fun (a b : Nat) (h1 : a ≤ b) (h2 : b ≤ s.size) w => Tryd.Key_calls s (a : Int) (b : Int) _ _ _ _ w (by omega) (keyE_is s a b h1 h2)
  have RH := Lib.hid fun (K : ByteArray) (h : K.size ≤ s.size) w => Tryd.strings_HasSuffix K ⟨#[95, 83, 69, 67, 84, 73, 79, 78]⟩ w (by omega)
  have HBD := Lib.hid hbd
  clear hbd hL hsz
  go_enter Tryd.func30, Tryd.ntmps30
  go_wp2_with (go_at_call 16; (with_reducible refine (RR _).mono ?_); rintro e w1 ⟨v, rfl, hv, hw1⟩; obtain ⟨ao, cap, rfl⟩ := howns_slice hv)
  go_loopw [14] (fun i wr => ∃ k : Nat, k ≤ L.length ∧ i = .int .i64 (k : Int) ∧ Hid (splitE s L = (k + (splitE s (L.drop k)).1, (splitE s (L.drop k)).2)) ∧ Hid (Below w.heap.size w wr) ∧ Hid (wr.ownsRow w.heap.size 39 3 (.slice ao L.length cap) L.length (lineCells L))) (fun i _ => L.length - (intOf i).toNat)
  case atStart => exact ⟨0, Nat.zero_le _, rfl, Lib.hid (by simp), Lib.hid hw1, Lib.hid hv⟩
  case round =>
    clear hv hw1
    obtain ⟨k, hk, rfl, HS, HB, HR⟩ := hrel
    by_cases hlt : k < L.length
    · obtain ⟨⟨a, b, d⟩, hr⟩ : ∃ r, L[k]? = some r := ⟨L[k], List.getElem?_eq_getElem hlt⟩
      obtain ⟨g, c0, hgs, hgl⟩ := prows_at HR.out (Nat.lt_of_le_of_lt (Nat.zero_le _) hlt)
      cases hgs
      obtain ⟨hcap, hcap2⟩ := prow_cap HR.out
      obtain ⟨c1, c2, c3⟩ := prow_cells3 HR.out hr
      obtain ⟨hab, hbs⟩ := HBD.out _ (List.mem_of_getElem? hr)
      dsimp only at hab hbs
      have KK := RK.out a b hab hbs
      have HKs := keyE_size s a b
      have HST := Lib.hid (show splitE s (L.drop k) = if endB (keyE s a b).1 = true then (0, a) else ((splitE s (L.drop (k + 1))).1 + 1, (splitE s (L.drop (k + 1))).2) by
        rw [List.drop_eq_getElem_cons hlt, show L[k] = (a, b, d) from (List.getElem_eq_iff hlt).2 hr]; rfl)
      have HNL := Lib.hid hr
      clear hr hab hbs
      have hen : endB (keyE s a b).1 = (endsE (keyE s a b).1 hkSec || decide ((keyE s a b).1 = hkEof)) := rfl
      generalize keyE s a b = q at *
      obtain ⟨K, ⟨i, j⟩, t⟩ := q
      dsimp only at KK HKs HST hen
      unfold keyV at KK
      have HH := RH.out K HKs
      have e9 : ∀ x : ByteArray, Lib.hasSuffix x.data.toList [95, 83, 69, 67, 84, 73, 79, 78] = endsE x hkSec := fun x => suffix_ends x hkSec
      rw [e9] at HH
      clear e9
      have eqE := htext_beq K [69, 79, 70]
      rw [show decide (K = ⟨([69, 79, 70] : List UInt8).toArray⟩) = decide (K = hkEof) from rfl] at eqE
      generalize endsE K hkSec = x1 at *
      generalize decide (K = hkEof) = x2 at *
      have HKK := Lib.hid KK
      have HHH := Lib.hid HH
      clear KK HH
      have HBR := Lib.hid (below_one_h wr (.cells #[.int .i64 (a : Nat), .int .i64 (b : Nat), .int .i64 (d : Nat)] 39))
      cases x2
      · cases x1
        · have HST := Lib.hid (HST.out.trans (if_neg (by simp [hen])))
          clear hen
          go_wp2_with (first | (go_at_call 43; (with_reducible refine (HKK.out _).mono ?_); rintro e w2 ⟨rfl, hw2⟩; have B2 := Lib.hid (hstep (hstep (below_one_h wr (.cells #[.int .i64 (a : Nat), .int .i64 (b : Nat), .int .i64 (d : Nat)] 39)) hw2) (below_one_h w2 (.cells #[.int .i64 (i : Nat), .int .i64 (j : Nat)] 70))); clear hw2) | (go_at_call 44; (with_reducible refine (HHH.out _).mono ?_); rintro e u9 ⟨rfl, hu9⟩; subst hu9))
          go_roundw
          case rel =>
            have e := HST.out
            have h := HS.out
            rw [e] at h
            exact ⟨k + 1, by omega, by go_num, Lib.hid (h.trans (Prod.ext (by dsimp only; omega) rfl)), Lib.hid (hstep HB.out B2.out), Lib.hid (ownsRow_below HR.out B2.out (Nat.le_refl _))⟩
          case measure => simp [intOf]; omega
        · have HST := Lib.hid (HST.out.trans (if_pos (by rw [hen]; simp)))
          have HE := Lib.hid (show splitE s L = (k, a) by rw [HS.out, HST.out]; rfl)
          clear hen HS HST
          go_wp2_with (first | (go_at_call 43; (with_reducible refine (HKK.out _).mono ?_); rintro e w2 ⟨rfl, hw2⟩; have B2 := Lib.hid (hstep (hstep (below_one_h wr (.cells #[.int .i64 (a : Nat), .int .i64 (b : Nat), .int .i64 (d : Nat)] 39)) hw2) (below_one_h w2 (.cells #[.int .i64 (i : Nat), .int .i64 (j : Nat)] 70))); have R2 := hbox_next (hbox_next (World.alloc_heap_new wr (.cells #[.int .i64 (a : Nat), .int .i64 (b : Nat), .int .i64 (d : Nat)] 39)) hw2) (below_one_h w2 (.cells #[.int .i64 (i : Nat), .int .i64 (j : Nat)] 70)); go_loud (obtain ⟨r0, r1, r2⟩ := three_cells R2); clear hw2 R2) | (go_at_call 44; (with_reducible refine (HHH.out _).mono ?_); rintro e u9 ⟨rfl, hu9⟩; subst hu9))
          go_quiet (fail)
          go_wp2
          refine bodyPost_ret (v := .tuple #[.slice (some ⟨g, 0, none⟩) k cap, .int .i64 (a : Nat)]) (by simp [results, Tryd.results30, go_sem]) rfl ⟨_, by rw [HE.out], ?_, hstep HB.out (below_drewN_h B2.out)⟩
          rw [HE.out]
          exact HasRows.of (ownsRow_below HR.out (below_drewN_h B2.out) (Nat.le_refl _)) (Nat.lt_of_lt_of_le hgl B2.out.size)
      · have HST := Lib.hid (HST.out.trans (if_pos (by rw [hen]; simp)))
        have HE := Lib.hid (show splitE s L = (k, a) by rw [HS.out, HST.out]; rfl)
        clear hen HS HST
        go_wp2_with (first | (go_at_call 43; (with_reducible refine (HKK.out _).mono ?_); rintro e w2 ⟨rfl, hw2⟩; have B2 := Lib.hid (hstep (hstep (below_one_h wr (.cells #[.int .i64 (a : Nat), .int .i64 (b : Nat), .int .i64 (d : Nat)] 39)) hw2) (below_one_h w2 (.cells #[.int .i64 (i : Nat), .int .i64 (j : Nat)] 70))); have R2 := hbox_next (hbox_next (World.alloc_heap_new wr (.cells #[.int .i64 (a : Nat), .int .i64 (b : Nat), .int .i64 (d : Nat)] 39)) hw2) (below_one_h w2 (.cells #[.int .i64 (i : Nat), .int .i64 (j : Nat)] 70)); go_loud (obtain ⟨r0, r1, r2⟩ := three_cells R2); clear hw2 R2) | (go_at_call 44; (with_reducible refine (HHH.out _).mono ?_); rintro e u9 ⟨rfl, hu9⟩; subst hu9))
        go_quiet (fail)
        go_wp2
        refine bodyPost_ret (v := .tuple #[.slice (some ⟨g, 0, none⟩) k cap, .int .i64 (a : Nat)]) (by simp [results, Tryd.results30, go_sem]) rfl ⟨_, by rw [HE.out], ?_, hstep HB.out (below_drewN_h B2.out)⟩
        rw [HE.out]
        exact HasRows.of (ownsRow_below HR.out (below_drewN_h B2.out) (Nat.le_refl _)) (Nat.lt_of_lt_of_le hgl B2.out.size)
    · obtain rfl : k = L.length := by omega
      have HE := Lib.hid (show splitE s L = (L.length, s.size) by rw [HS.out, List.drop_length]; rfl)
      clear HS
      go_wp2
      refine bodyPost_ret (v := .tuple #[.slice ao L.length cap, .int .i64 (s.size : Nat)]) (by simp [results, Tryd.results30, go_sem]) rfl ⟨_, by rw [HE.out], ?_, HB.out⟩
      rw [HE.out]
      rcases Nat.eq_zero_or_pos L.length with h0 | h0
      · exact ⟨ao, cap, rfl, fun hp => absurd hp (by show ¬ 0 < L.length; omega)⟩
      · obtain ⟨g, c0, hgs, hgl⟩ := prows_at HR.out h0
        cases hgs
        exact HasRows.of HR.out hgl
#print axioms Tryd.hsplit_calls
end Go.Proofs
/- What take does to a map, held against the document's own run of the rows; no walk. -/
namespace Go.Hdr
open Go Go.Proofs Go.AnyMap Go.Wds Go.Cur
theorem put_zero (h : Hd) (v : ByteArray) {i : Nat} (hi : i ≤ 5) (hz : hfld i h = hfld i hd0) : (putE h (i : Int) v).2 = (putE hd0 (i : Int) v).2 ∧ hany i (putE h (i : Int) v).1 = hany i (putE hd0 (i : Int) v).1 := by
  rcases (show i = 0 ∨ i = 1 ∨ i = 2 ∨ i = 3 ∨ i = 4 ∨ i = 5 by omega) with rfl | rfl | rfl | rfl | rfl | rfl
  · exact ⟨rfl, rfl⟩
  · have e : h.kind = 0 := by simpa [hfld, hd0] using hz
    have e2 : putE h ((1 : Nat) : Int) v = ({ h with kind := if v = hkCvrp then 2 else if v = hkTsp then 1 else h.kind }, decide ((0 : Int) < if v = hkCvrp then 2 else if v = hkTsp then 1 else h.kind)) := rfl
    have e3 : putE hd0 ((1 : Nat) : Int) v = ({ hd0 with kind := if v = hkCvrp then 2 else if v = hkTsp then 1 else 0 }, decide ((0 : Int) < if v = hkCvrp then 2 else if v = hkTsp then 1 else 0)) := rfl
    rw [e2, e3, e]
    exact ⟨rfl, rfl⟩
  all_goals exact ⟨rfl, rfl⟩
theorem read_140 (K v : ByteArray) : (readE K v).2 = 140 ↔ hplaceE K < 0 := by
  unfold readE
  split
  · rename_i h; exact ⟨fun _ => h, fun _ => rfl⟩
  · rename_i h
    split
    · exact ⟨fun e => absurd e (by decide), fun e => absurd e h⟩
    · exact ⟨fun e => absurd (show (0 : Int) = 140 from e) (by decide), fun e => absurd e h⟩
theorem take_row {f : ByteArray → Option Value} {p : Pr} (h : MapPr f p) (s : ByteArray) (a b d : Nat) (hend : endB (keyE s a b).1 = false)
    {T : (Nat × Int) × (ByteArray → Option Value)} (hT : takeR a (keyE s a b).2.1.1 f (keyE s a b).1 (keyE s a b).2.2 (readE (keyE s a b).1 (textI s (keyE s a b).2.1.1 (keyE s a b).2.1.2)) = T) :
    (∃ x c, rowE s p (a, b, d) = .bad x c ∧ T.1 = (x, c) ∧ c ≠ 0) ∨ (∃ p', rowE s p (a, b, d) = .go p' ∧ T.1 = (0, 0) ∧ MapPr T.2 p') := by
  subst hT
  unfold rowE takeR
  dsimp only
  generalize keyE s a b = q at *
  obtain ⟨K, ⟨i, j⟩, t⟩ := q
  dsimp only at hend ⊢
  rw [if_neg (by rw [hend]; decide)]
  generalize textI s (i : Int) (j : Int) = v
  cases t
  · left
    exact ⟨a, 3, rfl, rfl, by decide⟩
  have htf : ¬ ((true : Bool) = false) := by decide
  rw [if_neg htf, if_neg htf]
  by_cases hs : skipB K = true
  · right
    rw [if_pos hs, if_pos hs]
    exact ⟨p, rfl, rfl, h⟩
  rw [if_neg hs, if_neg hs]
  have hk := h.keys K
  have h140 := read_140 K v
  by_cases hc : hplaceE K < 0 ∨ p.c (hplaceE K).toNat = true
  · left
    rw [if_pos hc, if_pos (by
      rcases hc with hc | hc
      · exact .inr (h140.2 hc)
      · by_cases hp : hplaceE K < 0
        · exact .inr (h140.2 hp)
        · exact .inl (by rw [hk, hc, decide_eq_true (by omega)]; rfl))]
    exact ⟨a, 140, rfl, rfl, by decide⟩
  have hp : 0 ≤ hplaceE K := by omega
  have hc0 : p.c (hplaceE K).toNat = false := by
    cases hx : p.c (hplaceE K).toNat with
    | false => rfl
    | true => exact absurd (.inr hx) hc
  have ht : ¬ ((f K).isSome = true ∨ (readE K v).2 = 140) := by
    rintro (h1 | h1)
    · rw [hk, hc0, Bool.and_false] at h1; cases h1
    · exact hc (.inl (h140.1 h1))
  rw [if_neg hc, if_neg ht]
  obtain ⟨h5, hkk⟩ := place_key hp
  obtain ⟨n, hn⟩ : ∃ n : Nat, hplaceE K = n := ⟨(hplaceE K).toNat, by omega⟩
  have hnn : (hplaceE K).toNat = n := by omega
  obtain ⟨z1, z2⟩ := put_zero p.h v h5 (h.zero _ h5 hc0)
  rw [hnn, ← hn] at z1 z2
  have hr : readE K v = if (putE hd0 (hplaceE K) v).2 = false then (.nilIface, 141) else (hany (hplaceE K).toNat (putE hd0 (hplaceE K) v).1, 0) := by
    unfold readE; rw [if_neg (by omega)]
  rw [hr, z1]
  by_cases hb : (putE hd0 (hplaceE K) v).2 = false
  · left
    rw [if_pos hb, if_pos hb, if_pos (show ((Value.nilIface, (141 : Int)).2 ≠ 0) by decide)]
    exact ⟨i, 141, rfl, rfl, by decide⟩
  · right
    rw [if_neg hb, if_neg hb, if_neg (show ¬ ((hany (hplaceE K).toNat (putE hd0 (hplaceE K) v).1, (0 : Int)).2 ≠ 0) from fun e => e rfl)]
    refine ⟨_, rfl, rfl, ?_⟩
    rw [hnn, ← z2, ← hnn]
    exact h.step hp
theorem row_stop {s : ByteArray} {p : Pr} {a b d : Nat} (h : endB (keyE s a b).1 = true) : rowE s p (a, b, d) = .stop := by
  unfold rowE
  dsimp only
  rw [if_pos h]
theorem split_zero {s : ByteArray} {p : Pr} {L : List (Nat × Nat × Nat)} {e : Nat} (h : splitE s L = (0, e)) : rowsE14 s L p = .inr (p, e) := by
  cases L with
  | nil => cases h; rfl
  | cons r l =>
    obtain ⟨a, b, d⟩ := r
    unfold splitE at h
    split at h
    · rename_i hx
      cases h
      unfold rowsE14
      rw [row_stop hx]
    · cases h
theorem split_succ {s : ByteArray} {k m e : Nat} {L : List (Nat × Nat × Nat)} (h : splitE s (L.drop k) = (m + 1, e)) {a b d : Nat} (hr : L[k]? = some (a, b, d)) : endB (keyE s a b).1 = false ∧ splitE s (L.drop (k + 1)) = (m, e) := by
  obtain ⟨hlt, he⟩ := List.getElem?_eq_some_iff.1 hr
  rw [List.drop_eq_getElem_cons hlt, he] at h
  unfold splitE at h
  split at h
  · cases h
  · rename_i hx
    refine ⟨by simpa using hx, ?_⟩
    have h1 := congrArg Prod.fst h
    have h2 := congrArg Prod.snd h
    dsimp only at h1 h2
    exact Prod.ext (by dsimp only; omega) h2
theorem rows_step {s : ByteArray} {k : Nat} {L : List (Nat × Nat × Nat)} {a b d : Nat} (hr : L[k]? = some (a, b, d)) (p : Pr) : rowsE14 s (L.drop k) p = match rowE s p (a, b, d) with
    | .stop => .inr (p, a)
    | .bad x c => .inl (x, c)
    | .go q => rowsE14 s (L.drop (k + 1)) q := by
  obtain ⟨hlt, he⟩ := List.getElem?_eq_some_iff.1 hr
  rw [List.drop_eq_getElem_cons hlt, he, rowsE14_cons]
  all_goals (cases rowE s p (a, b, d) <;> rfl)
theorem parse_bad {s : ByteArray} {x : Nat} {c : Int} (h : rowsE14 s (rowsOf s.data.toList) pr0 = .inl (x, c)) : parseE s = (hd0, 0, x, c) := by unfold parseE; rw [h]
theorem parse_end {s : ByteArray} {p : Pr} {e : Nat} (h : rowsE14 s (rowsOf s.data.toList) pr0 = .inr (p, e)) : parseE s = if lackE p = true then (hd0, 0, e, 142) else (p.h, e, 0, 0) := by unfold parseE; rw [h]
#print axioms take_row
end Go.Hdr
/- The landed head's tell: the head that a map of what was taken makes. Conditions: the map holds what it holds. -/
namespace Go.Proofs
open Go.RowKit Go.Hdr Go.AnyMap
attribute [local go_sem] Oper.semAt_some
set_option linter.unusedVariables false
set_option maxRecDepth 100000 in
set_option maxHeartbeats 4000000 in
theorem Tryd.htell_calls (w : World) (b n : Nat) (f : ByteArray → Option Value) (nm : ByteArray) (k d c m l : Int) (a0 a1 a2 a3 a4 a5 : Bool) (h : HasMap Tryd.prog 9 w b n f)
    (h0 : TextV ((f hkName).getD .nilIface) nm a0) (h1 : IntV ((f hkType).getD .nilIface) k a1) (h2 : IntV ((f hkDim).getD .nilIface) d a2) (h3 : IntV ((f hkCap).getD .nilIface) c a3) (h4 : IntV ((f hkMet).getD .nilIface) m a4) (h5 : IntV ((f hkLay).getD .nilIface) l a5) :
    Calls Tryd.prog 32 #[.map (some b)] w fun e w' => e = .returned (.tuple #[hdV ⟨nm, k, d, c, m, l⟩, .bool (!(!a0 || !a1 || !a2 || !a4 || (decide (k = 2) && !a3) || (decide (m = 0) && !a5)))]) ∧ Below w.heap.size w w' := by
  have hlt := h.lt
  have A0 := fun W => h0.run (W := W)
  have A1 := fun W => h1.run (W := W)
  have A2 := fun W => h2.run (W := W)
  have A3 := fun W => h3.run (W := W)
  have A4 := fun W => h4.run (W := W)
  have A5 := fun W => h5.run (W := W)
  have LL : ∀ K : ByteArray, K.size ≤ 20 → ∀ o1 o2, (Instr.lookup 49 (.map (some b)) (.string K) false).run Tryd.prog ((w.alloc o1).alloc o2) = .ok ((f K).getD .nilIface) ((w.alloc o1).alloc o2) := fun K hK o1 o2 =>
    (h.below hlt (((Below.refl _ w).alloc (Nat.le_refl _) o1).alloc (by simp) o2)).look Tryd.underlying9 Tryd.underlying49 (any_zero _) K (Nat.le_trans hK (by decide))
  have L0 := LL hkName (by decide)
  have L1 := LL hkType (by decide)
  have L2 := LL hkDim (by decide)
  have L3 := LL hkCap (by decide)
  have L4 := LL hkMet (by decide)
  have L5 := LL hkLay (by decide)
  generalize (f hkName).getD .nilIface = v0 at *
  generalize (f hkType).getD .nilIface = v1 at *
  generalize (f hkDim).getD .nilIface = v2 at *
  generalize (f hkCap).getD .nilIface = v3 at *
  generalize (f hkMet).getD .nilIface = v4 at *
  generalize (f hkLay).getD .nilIface = v5 at *
  simp only [hkName, hkType, hkDim, hkCap, hkMet, hkLay] at L0 L1 L2 L3 L4 L5
  clear LL
  clear h0 h1 h2 h3 h4 h5 h
  go_enter Tryd.func32, Tryd.ntmps32
  go_wp2
  all_goals
    have hB : ∀ o1 o2, Below w.heap.size w ((w.alloc o1).alloc o2) := fun o1 o2 => ((Below.refl _ w).alloc (Nat.le_refl _) o1).alloc (by simp) o2
    clear L0 L1 L2 L3 L4 L5 A0 A1 A2 A3 A4 A5
    first
      | (refine bodyPost_ret (v := .tuple #[hdV ⟨nm, k, d, c, m, l⟩, .bool false]) (by simp [results, Tryd.results32, go_sem, hdV] <;> simp_all) rfl ⟨?_, hB _ _⟩; simp_all; done)
      | (refine bodyPost_ret (v := .tuple #[hdV ⟨nm, k, d, c, m, l⟩, .bool true]) (by simp [results, Tryd.results32, go_sem, hdV] <;> simp_all) rfl ⟨?_, hB _ _⟩; simp_all; done)
      | (refine bodyPost_ret (v := .tuple #[hdV ⟨nm, k, d, c, m, l⟩, .bool (m != 0)]) (by simp [results, Tryd.results32, go_sem, hdV] <;> simp_all) rfl ⟨?_, hB _ _⟩; simp_all; rfl)
      | (refine bodyPost_ret (v := .tuple #[hdV ⟨nm, k, d, c, m, l⟩, .bool (k != 2)]) (by simp [results, Tryd.results32, go_sem, hdV] <;> simp_all) rfl ⟨?_, hB _ _⟩; simp_all; done)
      | fail
end Go.Proofs
#print axioms Go.Proofs.Tryd.htell_calls
/- The landed head's Parse. Conditions: a text of at most 3000 bytes; the tables hold what the card lays. -/
namespace Go.Proofs
open Go.RowKit Go.Shelf Go.Hdr Go.AnyMap Go.Wds Go.Cur
attribute [local go_sem] Oper.semAt_some
set_option linter.unusedVariables false
/-- What Parse has between rows: its results' boxes, the map, the rows. -/
structure Tryd.HpS (w : World) (B k m : Nat) (ao : Option Addr) (L : List (Nat × Nat × Nat)) (f : ByteArray → Option Value) (W : World) : Prop where
  below : Below w.heap.size w W
  res : W.heap[w.heap.size]? = some (.cells #[.string ⟨#[]⟩, .int .i64 0, .int .i64 0, .int .i64 0, .int .i64 0, .int .i64 0] 23)
  dg : W.heap[w.heap.size + 1]? = some (.cells #[.int .i64 0, .int .i64 0] 32)
  map : HasMap Tryd.prog 9 W B k f
  lo : w.heap.size + 2 ≤ B
  rows : 0 < m → ∃ g, ao = some ⟨g, 0, none⟩ ∧ g < B ∧ ∀ k a b d, k < m → L[k]? = some (a, b, d) → W.cell? ⟨g, k * 3, none⟩ = some (.int .i64 (a : Nat)) ∧ W.cell? ⟨g, k * 3 + 1, none⟩ = some (.int .i64 (b : Nat)) ∧ W.cell? ⟨g, k * 3 + 2, none⟩ = some (.int .i64 (d : Nat))
theorem Tryd.HpS.but {w W W' : World} {B k k' m : Nat} {ao : Option Addr} {L : List (Nat × Nat × Nat)} {f f' : ByteArray → Option Value} (h : Tryd.HpS w B k m ao L f W) (hb : But B W W') (hm : HasMap Tryd.prog 9 W' B k' f') : Tryd.HpS w B k' m ao L f' W' := by
  have hlo := h.lo
  have hBW := h.map.lt
  refine ⟨⟨hb.os.trans h.below.os, hb.tape.trans h.below.tape, hb.output.trans h.below.output, Nat.le_trans h.below.size hb.size, fun j hj => (hb.block j (Nat.lt_of_lt_of_le hj h.below.size) (by omega)).trans (h.below.block j hj)⟩, (hb.block _ (hbox_lt h.res) (by omega)).trans h.res, (hb.block _ (hbox_lt h.dg) (by omega)).trans h.dg, hm, hlo, fun hp => ?_⟩
  obtain ⟨g, h1, h2, h3⟩ := h.rows hp
  have hc := fun o => hb.cell (k := g) (by omega) (by omega) o
  exact ⟨g, h1, h2, fun k a b d hk hr => by rw [hc, hc, hc]; exact h3 k a b d hk hr⟩
theorem Tryd.HpS.next {w W W' : World} {B k m : Nat} {ao : Option Addr} {L : List (Nat × Nat × Nat)} {f : ByteArray → Option Value} (h : Tryd.HpS w B k m ao L f W) (hb : Below W.heap.size W W') : Tryd.HpS w B k m ao L f W' := h.but (but_of_below hb (Nat.le_refl _)) (h.map.below h.map.lt hb)
theorem Tryd.HpS.resat {w W : World} {B k m : Nat} {ao : Option Addr} {L : List (Nat × Nat × Nat)} {f : ByteArray → Option Value} (h : Tryd.HpS w B k m ao L f W) : (W.cell? ⟨w.heap.size, 0, none⟩ = some (.string ⟨#[]⟩) ∧ W.cell? ⟨w.heap.size, 1, none⟩ = some (.int .i64 0) ∧ W.cell? ⟨w.heap.size, 2, none⟩ = some (.int .i64 0) ∧ W.cell? ⟨w.heap.size, 3, none⟩ = some (.int .i64 0) ∧ W.cell? ⟨w.heap.size, 4, none⟩ = some (.int .i64 0) ∧ W.cell? ⟨w.heap.size, 5, none⟩ = some (.int .i64 0)) ∧ (W.cell? ⟨w.heap.size + 1, 0, none⟩ = some (.int .i64 0) ∧ W.cell? ⟨w.heap.size + 1, 1, none⟩ = some (.int .i64 0)) ∧ (∀ j, W.frozen? ⟨w.heap.size, j, none⟩ = false) ∧ (∀ j, W.frozen? ⟨w.heap.size + 1, j, none⟩ = false) :=
  ⟨⟨(hbox_cell h.res 0).1, (hbox_cell h.res 1).1, (hbox_cell h.res 2).1, (hbox_cell h.res 3).1, (hbox_cell h.res 4).1, (hbox_cell h.res 5).1⟩, ⟨(hbox_cell h.dg 0).1, (hbox_cell h.dg 1).1⟩, fun j => (hbox_cell h.res j).2, fun j => (hbox_cell h.dg j).2⟩
/-- Parse's results, as they lie in their boxes at the end. -/
theorem eight_end {w W : World} {x0 x1 x2 x3 x4 x5 y0 y1 : Value} (h : Below w.heap.size w W) : Below w.heap.size w ((((((((W.setCell ⟨w.heap.size, 0, none⟩ x0).setCell ⟨w.heap.size, 1, none⟩ x1).setCell ⟨w.heap.size, 2, none⟩ x2).setCell ⟨w.heap.size, 3, none⟩ x3).setCell ⟨w.heap.size, 4, none⟩ x4).setCell ⟨w.heap.size, 5, none⟩ x5).setCell ⟨w.heap.size + 1, 0, none⟩ y0).setCell ⟨w.heap.size + 1, 1, none⟩ y1) :=
  (((six_below h (Nat.le_refl _)).setCell (by simp) _).setCell (by simp) _)
set_option maxRecDepth 100000 in
set_option maxHeartbeats 16000000 in
theorem Tryd.hparse_calls (s : ByteArray) (w : World) (hs : s.size ≤ 3000) (hK : KeyTab w) (hLy : LayTab w) :
    Calls Tryd.prog 14 #[.string s] w fun e w' => e = .returned (.tuple #[hdV (parseE s).1, .int .i64 ((parseE s).2.1 : Nat), .agg #[.int .i64 ((parseE s).2.2.1 : Nat), .int .i64 (parseE s).2.2.2]]) ∧ Below w.heap.size w w' := by
  have RS := fun w => Tryd.hsplit_calls s w (by omega)
  have MK := fun W => any_make W
  have hbd : ∀ r ∈ rowsOf s.data.toList, r.1 ≤ r.2.1 ∧ r.2.1 ≤ s.data.toList.length := rows_bd
  have hsz : s.data.toList.length = s.size := by simp
  have hlen : (rowsOf s.data.toList).length ≤ 3001 := Nat.le_trans (List.length_filter_le _ _) (Nat.le_trans (lines_len s) (by omega))
  have PB := Lib.hid fun (x : Nat) (c : Int) h => parse_bad (s := s) (x := x) (c := c) h
  have PN := Lib.hid fun (p : Pr) (e : Nat) h => parse_end (s := s) (p := p) (e := e) h
  rw [hsz] at hbd
  generalize hL : rowsOf s.data.toList = L at *
  have hm : (splitE s L).1 ≤ L.length := splitE_le s L
  have HS0 := Lib.hid (show splitE s L = ((splitE s L).1, (splitE s L).2) from rfl)
  generalize hgm : (splitE s L).1 = m at *
  generalize hge : (splitE s L).2 = en at *
  have HBD := Lib.hid hbd
  have TK := Lib.hid fun W (h : Below w.heap.size w W) => hK.below h
  have TL := Lib.hid fun W (h : Below w.heap.size w W) => hLy.below h
  generalize hR : parseE s = R at *
  clear hbd hK hLy hgm hge hL hsz hR
  have HTK := Lib.hid fun (a b c : Nat) (W : World) (B n : Nat) f h hn hab hb hk hl => Tryd.htake_calls s a b c W B n f h hn (by omega) hab hb hk hl
  have HTE := Lib.hid fun (W : World) (b n : Nat) f nm k d c m l a0 a1 a2 a3 a4 a5 h h0 h1 h2 h3 h4 h5 => Tryd.htell_calls W b n f nm k d c m l a0 a1 a2 a3 a4 a5 h h0 h1 h2 h3 h4 h5
  go_enter Tryd.func14, Tryd.ntmps14
  go_wp2_with (go_at_call 30; (with_reducible refine (RS _).mono ?_); rintro e w1 ⟨v, rfl, ⟨ao, c, rfl, hv⟩, hw1⟩)
  have hq : w.heap.size + 2 ≤ w1.heap.size := by have := hw1.size; simp only [World.size_alloc] at this; omega
  have HP0 : Tryd.HpS w w1.heap.size 0 m ao L (fun _ => none) (w1.alloc (.map #[] 0)) := by
    have b0 := below_one_h w1 (.map #[] 0)
    refine ⟨hstep (hstep (below_two_n w (.cells #[.string ⟨#[]⟩, .int .i64 0, .int .i64 0, .int .i64 0, .int .i64 0, .int .i64 0] 23) (.cells #[.int .i64 0, .int .i64 0] 32)) hw1) b0, hbox_next (hbox_next (hbox_one w (.cells #[.string ⟨#[]⟩, .int .i64 0, .int .i64 0, .int .i64 0, .int .i64 0, .int .i64 0] 23) (.cells #[.int .i64 0, .int .i64 0] 32)) hw1) b0, hbox_next (hbox_next (hbox_two w (.cells #[.string ⟨#[]⟩, .int .i64 0, .int .i64 0, .int .i64 0, .int .i64 0, .int .i64 0] 23) (.cells #[.int .i64 0, .int .i64 0] 32)) hw1) b0, HasMap.made w1 Tryd.prog 9, hq, fun hp => ?_⟩
    obtain ⟨g, h1, _, h2, h3⟩ := hv hp
    have hc := fun o => b0.cell (p := ⟨g, o, none⟩) h2
    exact ⟨g, h1, h2, fun k a b d hk hr => by rw [hc, hc, hc]; exact h3 k a b d hk hr⟩
  clear hv hw1 RS MK
  obtain ⟨B, hB⟩ : ∃ B, w1.heap.size = B := ⟨_, rfl⟩
  rw [hB] at HP0 ⊢
  have HP0 := Lib.hid HP0
  obtain ⟨W1, hW1⟩ : ∃ W1, w1.alloc (.map #[] 0) = W1 := ⟨_, rfl⟩
  rw [hW1] at HP0 ⊢
  clear hB hq hW1
  go_loopw [21] (fun i wr => ∃ (k : Nat) (f : ByteArray → Option Value) (p : Pr), k ≤ m ∧ i = .int .i64 (k : Int) ∧ Hid (Tryd.HpS w B k m ao L f wr) ∧ Hid (MapPr f p) ∧ Hid (rowsE14 s L pr0 = rowsE14 s (L.drop k) p) ∧ Hid (splitE s (L.drop k) = (m - k, en))) (fun i _ => m - (intOf i).toNat)
  case atStart => exact ⟨0, _, pr0, Nat.zero_le _, rfl, HP0, Lib.hid MapPr.start, Lib.hid rfl, Lib.hid (by simpa using HS0.out)⟩
  case round =>
    clear HP0
    obtain ⟨k, f, p, hk, rfl, HP, HM, HR, HS⟩ := hrel
    by_cases hlt : k < m
    · obtain ⟨⟨a, b, d⟩, hr⟩ : ∃ r, L[k]? = some r := ⟨L[k], List.getElem?_eq_getElem (by omega)⟩
      obtain ⟨g, hgs, hgB, hcs⟩ := HP.out.rows (Nat.lt_of_le_of_lt (Nat.zero_le _) hlt)
      cases hgs
      obtain ⟨c1, c2, c3⟩ := hcs k a b d hlt hr
      clear hcs
      obtain ⟨hab, hbs⟩ := HBD.out _ (List.mem_of_getElem? hr)
      dsimp only at hab hbs
      obtain ⟨hen, hsp⟩ := split_succ (m := m - k - 1) (by rw [HS.out, show m - k - 1 + 1 = m - k by omega]) hr
      have hst := rows_step (s := s) hr p
      have hrl := HR.out.trans hst
      have HN := HP.out.next (below_one_h wr (.cells #[.int .i64 (a : Nat), .int .i64 (b : Nat), .int .i64 (d : Nat)] 39))
      have HT := HTK.out a b d (wr.alloc (.cells #[.int .i64 (a : Nat), .int .i64 (b : Nat), .int .i64 (d : Nat)] 39)) B k f HN.map (by omega) hab hbs (TK.out _ HN.below) (TL.out _ HN.below)
      obtain ⟨T, hT⟩ : ∃ T, takeR a (keyE s a b).2.1.1 f (keyE s a b).1 (keyE s a b).2.2 (readE (keyE s a b).1 (textI s (keyE s a b).2.1.1 (keyE s a b).2.1.2)) = T := ⟨_, rfl⟩
      rw [hT] at HT
      have htr := take_row HM.out s a b d hen hT
      have HNN := Lib.hid HN
      have HTT := Lib.hid HT
      clear hr hst hT HN HT hab hbs hen
      have HSP := Lib.hid hsp
      clear hsp
      obtain ⟨⟨x, c⟩, f'⟩ := T
      rcases htr with ⟨x', c', hrow, h1, hc0⟩ | ⟨p', hrow, h1, h2⟩
      · cases h1
        rw [hrow] at hrl
        have HE := Lib.hid (PB.out _ _ hrl)
        have hcc : (c == 0) = false := beq_eq_false_iff_ne.2 hc0
        clear hrl hrow hc0 HSP
        go_upto_region 8 with (go_at_call 31; (with_reducible refine HTT.out.mono ?_); rintro e w2 ⟨rfl, hm2, hb2⟩; have HN2 := (HNN.out.but hb2 hm2); have DB2 := World.alloc_heap_new w2 (.cells #[.int .i64 (x : Nat), .int .i64 c] 32); have HN3 := HN2.next (below_one_h w2 (.cells #[.int .i64 (x : Nat), .int .i64 c] 32)); go_loud (obtain ⟨d0, d1⟩ := two_cells DB2); have HN3 := Lib.hid HN3; have HNE := Lib.hid (show w2.heap.size ≠ w.heap.size ∧ w2.heap.size ≠ w.heap.size + 1 ∧ w.heap.size ≠ w2.heap.size ∧ w.heap.size + 1 ≠ w2.heap.size by have := hbox_lt HN2.dg; omega); clear HN2 hm2 hb2 DB2)
        have HB9 := Lib.hid HN3.out.below
        obtain ⟨⟨r0, r1, r2, r3, r4, r5⟩, ⟨q0, q1⟩, fr, fq⟩ := HN3.out.resat
        have f0 := fr 0; have f1 := fr 1; have f2 := fr 2; have f3 := fr 3; have f4 := fr 4; have f5 := fr 5; have g0 := fq 0; have g1 := fq 1
        clear fr fq
        obtain ⟨n1, n2, n3, n4⟩ := HNE.out
        go_region
        go_wp2
        refine bodyPost_ret (v := .tuple #[hdV hd0, .int .i64 0, .agg #[.int .i64 (x : Nat), .int .i64 c]]) (by simp [results, Tryd.results14, go_sem, hdV, hd0, r0, r1, r2, r3, r4, r5, q0, q1]) rfl ⟨by rw [HE.out]; rfl, ?_⟩
        exact below_drew_h (eight_end HB9.out)
      · cases h1
        rw [hrow] at hrl
        go_wp2_with (go_at_call 31; (with_reducible refine HTT.out.mono ?_); rintro e w2 ⟨rfl, hm2, hb2⟩; have HN2 := (HNN.out.but hb2 hm2); have DB2 := World.alloc_heap_new w2 (.cells #[.int .i64 (0 : Nat), .int .i64 0] 32); have HN3 := HN2.next (below_one_h w2 (.cells #[.int .i64 (0 : Nat), .int .i64 0] 32)); go_loud (obtain ⟨d0, d1⟩ := two_cells DB2); have HN3 := Lib.hid HN3; clear HN2 hm2 hb2 DB2)
        go_roundw
        case rel => exact ⟨k + 1, f', p', by omega, by go_num, HN3, Lib.hid h2, Lib.hid hrl, Lib.hid (HSP.out.trans (Prod.ext (by dsimp only; omega) rfl))⟩
        case measure => simp [intOf]; omega
    · obtain rfl : k = m := by omega
      have hrl := HR.out.trans (split_zero (p := p) (by rw [HS.out, Nat.sub_self]))
      have HE := Lib.hid (PN.out _ _ hrl)
      clear hrl HR HS
      have HT : Calls Tryd.prog 32 #[.map (some B)] wr fun e w' => e = .returned (.tuple #[hdV p.h, .bool (!lackE p)]) ∧ Below wr.heap.size wr w' := HTE.out wr B k f p.h.name p.h.kind p.h.dim p.h.cap p.h.met p.h.lay _ _ _ _ _ _ HP.out.map HM.out.text HM.out.kind HM.out.dim HM.out.cap HM.out.met HM.out.lay
      clear HM
      generalize p.h = H at *
      obtain ⟨nm, k0, d0, c0, m0, l0⟩ := H
      unfold hdV at HT
      have HTT := Lib.hid HT
      clear HT
      cases hl : lackE p with
      | true =>
        rw [hl] at HTT HE
        rw [if_pos rfl] at HE
        go_wp2_with (go_at_call 32; (with_reducible refine HTT.out.mono ?_); rintro e w2 ⟨rfl, hw2⟩; have HN3 := (HP.out.next hw2).next (below_one_h w2 (.cells #[.string nm, .int .i64 k0, .int .i64 d0, .int .i64 c0, .int .i64 m0, .int .i64 l0] 23)); have HBX := World.alloc_heap_new w2 (.cells #[.string nm, .int .i64 k0, .int .i64 d0, .int .i64 c0, .int .i64 m0, .int .i64 l0] 23); go_loud (obtain ⟨⟨r0, r1, r2, r3, r4, r5⟩, ⟨q0, q1⟩, fr, fq⟩ := HN3.resat; have f0 := fr 0; have f1 := fr 1; have f2 := fr 2; have f3 := fr 3; have f4 := fr 4; have f5 := fr 5; have g0 := fq 0; have g1 := fq 1; have x0 := (hbox_cell HBX 0).1; have x1 := (hbox_cell HBX 1).1; have x2 := (hbox_cell HBX 2).1; have x3 := (hbox_cell HBX 3).1; have x4 := (hbox_cell HBX 4).1; have x5 := (hbox_cell HBX 5).1; clear fr fq); have HB9 := Lib.hid HN3.below; clear HN3 HBX hw2)
        refine bodyPost_ret (v := .tuple #[hdV hd0, .int .i64 0, .agg #[.int .i64 (en : Nat), .int .i64 142]]) (by simp [results, Tryd.results14, go_sem, hdV, hd0, r0, r1, r2, r3, r4, r5, q0, q1]) rfl ⟨by rw [HE.out]; rfl, ?_⟩
        exact eight_end HB9.out
      | false =>
        rw [hl] at HTT HE
        rw [if_neg (by decide)] at HE
        go_wp2_with (go_at_call 32; (with_reducible refine HTT.out.mono ?_); rintro e w2 ⟨rfl, hw2⟩; have HN3 := (HP.out.next hw2).next (below_one_h w2 (.cells #[.string nm, .int .i64 k0, .int .i64 d0, .int .i64 c0, .int .i64 m0, .int .i64 l0] 23)); have HBX := World.alloc_heap_new w2 (.cells #[.string nm, .int .i64 k0, .int .i64 d0, .int .i64 c0, .int .i64 m0, .int .i64 l0] 23); go_loud (obtain ⟨⟨r0, r1, r2, r3, r4, r5⟩, ⟨q0, q1⟩, fr, fq⟩ := HN3.resat; have f0 := fr 0; have f1 := fr 1; have f2 := fr 2; have f3 := fr 3; have f4 := fr 4; have f5 := fr 5; have g0 := fq 0; have g1 := fq 1; have x0 := (hbox_cell HBX 0).1; have x1 := (hbox_cell HBX 1).1; have x2 := (hbox_cell HBX 2).1; have x3 := (hbox_cell HBX 3).1; have x4 := (hbox_cell HBX 4).1; have x5 := (hbox_cell HBX 5).1; clear fr fq); have HB9 := Lib.hid HN3.below; clear HN3 HBX hw2)
        refine bodyPost_ret (v := .tuple #[hdV ⟨nm, k0, d0, c0, m0, l0⟩, .int .i64 (en : Nat), .agg #[.int .i64 0, .int .i64 0]]) (by simp [results, Tryd.results14, go_sem, hdV, r0, r1, r2, r3, r4, r5, q0, q1]) rfl ⟨by rw [HE.out]; rfl, ?_⟩
        exact eight_end HB9.out
#print axioms Tryd.hparse_calls
end Go.Proofs
