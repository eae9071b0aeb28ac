/- Plain facts of layer 14: what any text tells: a head within its bounds, or an error at a place of it. No program. -/
import Derived.Test.YtmmmgljekoebpaaDoorG07
import Derived.Test.YtmmmgljekoebpaaDoorG05
namespace Go.Hdr
open Go.Wds Go.Proofs Go.Cur Go.Fx Go.Metric Go.Layout
structure PrI (p : Pr) : Prop where
  k0 : p.c 1 = false → p.h.kind = 0
  k1 : p.c 1 = true → p.h.kind = 1 ∨ p.h.kind = 2
  dim : p.c 2 = true → 1 ≤ p.h.dim ∧ p.h.dim ≤ 400
  met : p.c 4 = true → 0 ≤ p.h.met ∧ p.h.met ≤ 5
theorem num_bd {s : ByteArray} {most : Int} (h : 0 < numE s most) : 1 ≤ numE s most ∧ numE s most ≤ most := by
  unfold numE at h ⊢
  split at h
  · rename_i h1; rw [if_pos h1]; exact h1.2
  · omega
theorem of_bd (s : ByteArray) : ∀ n k : Nat, (ofFrom s k n).2 = true → 0 ≤ (ofFrom s k n).1 ∧ (ofFrom s k n).1 < (k + n : Nat)
  | 0, k, h => by unfold ofFrom at h; cases h
  | n + 1, k, h => by
    unfold ofFrom at h ⊢
    split
    · rename_i h1
      simp only
      omega
    · rename_i h1
      rw [if_neg h1] at h
      have := of_bd s n (k + 1) h
      omega
theorem place_bd (k : ByteArray) : hplaceE k ≤ 5 := by
  unfold hplaceE
  repeat' split
  all_goals omega
theorem put_inv {p : Pr} (h : PrI p) {i : Int} (h0 : 0 ≤ i) (h5 : i ≤ 5) (hc : p.c i.toNat = false) {v : ByteArray} (hf : (putE p.h i v).2 = true) : PrI ⟨(putE p.h i v).1, fun j => p.c j || decide (j = i.toNat)⟩ := by
  rcases (show i = 0 ∨ i = 1 ∨ i = 2 ∨ i = 3 ∨ i = 4 ∨ i = 5 by omega) with rfl | rfl | rfl | rfl | rfl | rfl
  · refine ⟨fun e => h.k0 (by simpa using e), fun e => h.k1 (by simpa using e), fun e => h.dim (by simpa using e), fun e => h.met (by simpa using e)⟩
  · have hz := h.k0 hc
    have hq : decide (0 < (if v = hkCvrp then (2 : Int) else if v = hkTsp then 1 else p.h.kind)) = true := hf
    refine ⟨fun e => by simp at e, fun _ => ?_, fun e => h.dim (by simpa using e), fun e => h.met (by simpa using e)⟩
    show (if v = hkCvrp then (2 : Int) else if v = hkTsp then 1 else p.h.kind) = 1 ∨ (if v = hkCvrp then (2 : Int) else if v = hkTsp then 1 else p.h.kind) = 2
    rw [decide_eq_true_eq] at hq
    by_cases h1 : v = hkCvrp
    · rw [if_pos h1]; exact .inr rfl
    · rw [if_neg h1] at hq ⊢
      by_cases h2 : v = hkTsp
      · rw [if_pos h2]; exact .inl rfl
      · rw [if_neg h2] at hq; omega
  · have hq : decide (0 < numE v 400) = true := hf
    refine ⟨fun e => h.k0 (by simpa using e), fun e => h.k1 (by simpa using e), fun _ => num_bd (of_decide_eq_true hq), fun e => h.met (by simpa using e)⟩
  · refine ⟨fun e => h.k0 (by simpa using e), fun e => h.k1 (by simpa using e), fun e => h.dim (by simpa using e), fun e => h.met (by simpa using e)⟩
  · have hq : (ofR v).2 = true := hf
    have hb := of_bd v 6 0 hq
    refine ⟨fun e => h.k0 (by simpa using e), fun e => h.k1 (by simpa using e), fun e => h.dim (by simpa using e), fun _ => ?_⟩
    show 0 ≤ (ofR v).1 ∧ (ofR v).1 ≤ 5
    unfold ofR
    omega
  · refine ⟨fun e => h.k0 (by simpa using e), fun e => h.k1 (by simpa using e), fun e => h.dim (by simpa using e), fun e => h.met (by simpa using e)⟩
/-- Its errors. -/
def errB (c : Int) : Prop := c = 3 ∨ c = 140 ∨ c = 141
theorem rowE_inv {s : ByteArray} {p : Pr} (h : PrI p) {r : Nat × Nat × Nat} (h1 : r.1 ≤ r.2.1) (h2 : r.2.1 ≤ s.size) : (∀ q, rowE s p r = .go q → PrI q) ∧ ∀ a c, rowE s p r = .bad a c → a ≤ s.size ∧ errB c := by
  obtain ⟨a, b, d⟩ := r
  simp only at h1 h2
  have hsl : s.data.toList.length = s.size := by simp
  have hv := val_bd (l := s.data.toList) h1 (by omega)
  have hk := keyE_bs s.data.toList a b
  rw [bs_eta] at hk
  unfold rowE
  simp only [hk]
  cases hi : isKey (keyL s.data.toList a b) with
  | false =>
    simp only [Bool.false_eq_true, if_false, if_true]
    split
    · exact ⟨fun q e => (by cases e), fun x c e => by cases e⟩
    · exact ⟨fun q e => (by cases e), fun x c e => by cases e; exact ⟨by omega, .inl rfl⟩⟩
  | true =>
    simp only [if_true]
    split
    · exact ⟨fun q e => (by cases e), fun x c e => by cases e⟩
    · rw [if_neg (by decide)]
      split
      · exact ⟨fun q e => (by cases e; exact h), fun x c e => by cases e⟩
      · split
        · exact ⟨fun q e => (by cases e), fun x c e => by cases e; exact ⟨by omega, .inr (.inl rfl)⟩⟩
        · rename_i hp
          have hp0 : 0 ≤ hplaceE (keyL s.data.toList a b) := by
            rcases Int.lt_or_le (hplaceE (keyL s.data.toList a b)) 0 with h0 | h0
            · exact absurd (.inl h0) hp
            · exact h0
          have hpc : p.c (hplaceE (keyL s.data.toList a b)).toNat = false := by
            cases hq : p.c (hplaceE (keyL s.data.toList a b)).toNat with
            | false => rfl
            | true => exact absurd (.inr hq) hp
          split
          · exact ⟨fun q e => (by cases e), fun x c e => by cases e; exact ⟨by omega, .inr (.inr rfl)⟩⟩
          · rename_i hf
            refine ⟨fun q e => ?_, fun x c e => by cases e⟩
            cases e
            exact put_inv h hp0 (place_bd _) hpc (by simpa using hf)
theorem run_inv {s : ByteArray} : ∀ {rs : List (Nat × Nat × Nat)} {p : Pr}, PrI p → (∀ r ∈ rs, r.1 ≤ r.2.1 ∧ r.2.1 ≤ s.size) →
    (∀ a c, runR s rs p = .inl (a, c) → a ≤ s.size ∧ errB c) ∧ ∀ q e, runR s rs p = .inr (q, e) → PrI q ∧ ∀ x, e = some x → ∃ r ∈ rs, r.1 = x
  | [], p, h, _ => ⟨fun a c e => (by cases e), fun q e he => by cases he; exact ⟨h, fun x hx => by cases hx⟩⟩
  | r :: rs, p, h, hb => by
    have hr := hb r (by simp)
    obtain ⟨i1, i2⟩ := rowE_inv h hr.1 hr.2
    unfold runR
    cases he : rowE s p r with
    | stop => exact ⟨fun a c e => (by cases e), fun q e he => by cases he; exact ⟨h, fun x hx => by cases hx; exact ⟨r, by simp, rfl⟩⟩⟩
    | bad a c => exact ⟨fun a' c' e => (by cases e; exact i2 a c he), fun q e he => by cases he⟩
    | go q =>
      obtain ⟨j1, j2⟩ := run_inv (rs := rs) (i1 q he) fun x hx => hb x (List.mem_cons_of_mem _ hx)
      refine ⟨j1, fun q' e he => ?_⟩
      obtain ⟨k1, k2⟩ := j2 q' e he
      exact ⟨k1, fun x hx => by obtain ⟨y, hy, hz⟩ := k2 x hx; exact ⟨y, by simp [hy], hz⟩⟩
theorem pr0_inv : PrI pr0 := ⟨fun _ => rfl, fun e => (by cases e), fun e => (by cases e), fun e => by cases e⟩
/-- What any text tells. -/
theorem parse_told (s : ByteArray) : ((parseE s).2.2.2 ≠ 0 → (parseE s).1 = hd0 ∧ (parseE s).2.1 = 0 ∧ (parseE s).2.2.1 ≤ s.size ∧ (errB (parseE s).2.2.2 ∨ (parseE s).2.2.2 = 142)) ∧
    ((parseE s).2.2.2 = 0 → (parseE s).2.2.1 = 0 ∧ ((parseE s).2.1 = s.size ∨ ∃ r ∈ rowsOf s.data.toList, r.1 = (parseE s).2.1) ∧ 1 ≤ (parseE s).1.dim ∧ (parseE s).1.dim ≤ 400 ∧ ((parseE s).1.kind = 1 ∨ (parseE s).1.kind = 2) ∧ 0 ≤ (parseE s).1.met ∧ (parseE s).1.met ≤ 5) := by
  have hsl : s.data.toList.length = s.size := by simp
  have hb : ∀ r ∈ rowsOf s.data.toList, r.1 ≤ r.2.1 ∧ r.2.1 ≤ s.size := fun r hr => by have := rows_bd r hr; omega
  obtain ⟨j1, j2⟩ := run_inv (s := s) pr0_inv hb
  have hlack : ∀ {q : Pr}, PrI q → lackE q = false → 1 ≤ q.h.dim ∧ q.h.dim ≤ 400 ∧ (q.h.kind = 1 ∨ q.h.kind = 2) ∧ 0 ≤ q.h.met ∧ q.h.met ≤ 5 := fun {q} hq hl => by
    unfold lackE at hl
    simp only [Bool.or_eq_false_iff, Bool.not_eq_false'] at hl
    have hd := hq.dim hl.1.1.1.2
    have hm := hq.met hl.1.1.2
    exact ⟨hd.1, hd.2, hq.k1 hl.1.1.1.1.2, hm.1, hm.2⟩
  rw [parseE_run]
  unfold runA
  rw [bs_eta]
  cases hx : runR s (rowsOf s.data.toList) pr0 with
  | inl x =>
    obtain ⟨a, c⟩ := x
    obtain ⟨i1, i2⟩ := j1 a c hx
    refine ⟨fun _ => ⟨rfl, rfl, i1, .inl i2⟩, fun e => ?_⟩
    have e' : c = 0 := e
    subst e'
    rcases i2 with h | h | h <;> cases h
  | inr x =>
    obtain ⟨q, e⟩ := x
    obtain ⟨i1, i2⟩ := j2 q e hx
    cases e with
    | none =>
      show ((if lackE q = true then (hd0, 0, s.size, (142 : Int)) else (q.h, s.size, 0, 0)).2.2.2 ≠ 0 → _) ∧ _
      simp only
      cases hl : lackE q with
      | true => exact ⟨fun _ => ⟨rfl, rfl, Nat.le_refl _, .inr rfl⟩, fun e => by cases e⟩
      | false => exact ⟨fun e => absurd rfl e, fun _ => ⟨rfl, .inl rfl, hlack i1 hl⟩⟩
    | some x =>
      obtain ⟨r, hr, hrx⟩ := i2 x rfl
      have hrb := hb r hr
      simp only
      cases hl : lackE q with
      | true => exact ⟨fun _ => ⟨rfl, rfl, by simp only [if_true]; omega, .inr rfl⟩, fun e => by cases e⟩
      | false => exact ⟨fun e => absurd rfl e, fun _ => ⟨rfl, .inr ⟨r, hr, hrx⟩, hlack i1 hl⟩⟩
end Go.Hdr
/- Plain facts of layer 14: what is printed is parsed back; how long it is. No program. -/
namespace Go.Hdr
open Go.Wds Go.Proofs Go.Cur Go.Fx Go.Metric Go.Layout
theorem hitoa_short {n : Int} (h1 : -100000000 ≤ n) (h2 : n ≤ 100000000) : (Lib.itoa n).length ≤ 10 := by
  unfold Lib.itoa
  split
  · have := dec_short (u := n.natAbs) (k := 9) (by decide) (by have : (10 : Nat) ^ 9 = 1000000000 := by decide
                                                               omega)
    rw [List.length_cons]; omega
  · have := dec_short (u := n.toNat) (k := 9) (by decide) (by have : (10 : Nat) ^ 9 = 1000000000 := by decide
                                                              omega)
    omega
theorem kw_len : ∀ m : Nat, m ≤ 7 → (kwS (m : Int)).data.toList.length ≤ 40 ∧ (lkwS (m : Int)).data.toList.length ≤ 40 := by decide +kernel
theorem key_len : ∀ i, (hkey i).data.toList.length ≤ 20
  | 0 | 1 | 2 | 3 | 4 => by decide
  | n + 5 => by show hkLay.data.toList.length ≤ 20; decide
theorem item_len {h : Hd} (hm : MayF h) {i : Nat} (h5 : i ≤ 5) (hi : hasI h i = true) : (itemV h i).data.toList.length ≤ 40 := by
  rcases (show i = 0 ∨ i = 1 ∨ i = 2 ∨ i = 3 ∨ i = 4 ∨ i = 5 by omega) with rfl | rfl | rfl | rfl | rfl | rfl
  · exact (name_one hm.name).2
  · show (kindS h.kind).data.toList.length ≤ 40
    unfold kindS
    split <;> decide
  · have := hm.dim
    exact Nat.le_trans (hitoa_short (by omega) (by omega)) (by decide)
  · have hk : h.kind = 2 := of_decide_eq_true hi
    have := hm.kind
    exact Nat.le_trans (hitoa_short (by omega) (by omega)) (by decide)
  · have := hm.met
    have e := (kw_len h.met.toNat (by omega)).1
    rw [Int.toNat_of_nonneg (by omega)] at e
    exact e
  · have hk : h.met = 0 := of_decide_eq_true hi
    have := hm.lay
    have e := (kw_len h.lay.toNat (by omega)).2
    rw [Int.toNat_of_nonneg (by omega)] at e
    exact e
theorem lnI_len {g : List UInt8} {h : Hd} (hm : MayF h) {i : Nat} (h5 : i ≤ 5) (hi : hasI h i = true) : (lnI g h i).length ≤ g.length + 63 := by
  have h1 := key_len i
  have h2 := item_len hm h5 hi
  unfold lnI
  simp only [List.length_append, List.length_cons, List.length_nil]
  omega
theorem txtI_len {g : List UInt8} {h : Hd} (hm : MayF h) : ∀ (L : List Nat), (∀ i ∈ L, i ≤ 5 ∧ hasI h i = true) → (txtI g h L).length ≤ L.length * (g.length + 64)
  | [], _ => Nat.zero_le _
  | i :: L, hL => by
    have h1 := lnI_len (g := g) hm (hL i (by simp)).1 (hL i (by simp)).2
    have h2 := txtI_len (g := g) hm L fun j hj => hL j (List.mem_cons_of_mem _ hj)
    have e : txtI g h (i :: L) = (lnI g h i ++ [10]) ++ txtI g h L := rfl
    have e3 : (i :: L).length = L.length + 1 := rfl
    rw [e, List.length_append, List.length_append, e3, Nat.add_one_mul]
    simp only [List.length_cons, List.length_nil]
    omega
theorem print_len {h : Hd} (hm : mayH h = true) : (printE h).size ≤ 384 := by
  have h1 := txtI_len (g := []) (mayF hm) (itemsL h) (fun i hi => items_mem.1 hi)
  have h2 := items_len h
  have e : (printE h).size = (txtI [] h (itemsL h)).length := by rw [← printE_txt hm]; simp
  have h3 := Nat.mul_le_mul_right (([] : List UInt8).length + 64) h2.2
  rw [e]
  simp only [List.length_nil] at h1 h3
  omega
theorem hprint_bs {h : Hd} (hm : mayH h = true) : printE h = bs (txtI [] h (itemsL h)) := by
  rw [← printE_txt hm, bs_eta]
theorem nil_blk : ∀ x ∈ ([] : List UInt8), blk x = true := fun x h => by simp at h
theorem back_alone {h : Hd} (hm : mayH h = true) : parseE (printE h) = (h, (printE h).size, 0, 0) := by
  have := parse_back (g := []) (mayF hm) nil_blk (L := itemsL h) (fun _ => Iff.rfl) (items_nodup h) [] none (fun p => runA_nil p)
  rw [List.append_nil] at this
  rw [hprint_bs hm, this, bs_size]
theorem back_with {h : Hd} (hm : mayH h = true) (r : ByteArray) (e : Nat) (hr : ∀ p, runA r.data.toList p = .inr (p, some e)) : parseE (printE h ++ r) = (h, (printE h).size + e, 0, 0) := by
  have := parse_back (g := []) (mayF hm) nil_blk (L := itemsL h) (fun _ => Iff.rfl) (items_nodup h) r.data.toList (some e) hr
  rw [bs_append, bs_eta] at this
  rw [hprint_bs hm, this, bs_size, Nat.add_comm]
def hSec : ByteArray := ⟨#[69, 68, 71, 69, 95, 87, 69, 73, 71, 72, 84, 95, 83, 69, 67, 84, 73, 79, 78, 10]⟩
def hEnd : ByteArray := ⟨#[32, 10, 69, 79, 70, 32, 58, 32, 10]⟩
theorem back_sec {h : Hd} (hm : mayH h = true) (r : ByteArray) : parseE (printE h ++ hSec ++ r) = (h, (printE h).size, 0, 0) := by
  have e : printE h ++ hSec ++ r = printE h ++ (hSec ++ r) := bytes_ext (by simp only [app_list, List.append_assoc])
  rw [e]
  have := back_with hm (hSec ++ r) 0 (fun p => by
    rw [app_list]
    exact run_stop_alone hk_sec.1 hk_sec.2 r.data.toList p)
  rw [this, Nat.add_zero]
theorem back_eof {h : Hd} (hm : mayH h = true) (r : ByteArray) : parseE (printE h ++ hEnd ++ r) = (h, (printE h).size + 2, 0, 0) := by
  have e : printE h ++ hEnd ++ r = printE h ++ (hEnd ++ r) := bytes_ext (by simp only [app_list, List.append_assoc])
  rw [e]
  refine back_with hm (hEnd ++ r) 2 (fun p => ?_)
  rw [app_list]
  have e2 : hEnd.data.toList ++ r.data.toList = 32 :: 10 :: (hkEof.data.toList ++ [32] ++ 58 :: 32 :: [] ++ 10 :: r.data.toList) := by
    unfold hEnd hkEof; simp
  rw [e2, run_blank 32 (by decide), run_colon hk_eof.1 [] (fun x hx => by simp at hx) r.data.toList p (.inl hk_eof.2), hk_eof.2]
  rfl
end Go.Hdr
/- Plain facts of layer 14: the lines of a printed head, one of them again, without one of them, in another order. No program. -/
namespace Go.Hdr
open Go.Wds Go.Proofs Go.Cur Go.Fx Go.Metric Go.Layout
/-- Where a line begins. -/
def offI (h : Hd) (L : List Nat) (i : Nat) : Nat := (txtI [] h (L.take i)).length
theorem txtI_append (g : List UInt8) (h : Hd) (A B : List Nat) : txtI g h (A ++ B) = txtI g h A ++ txtI g h B := by unfold txtI; rw [List.flatMap_append]
theorem txtI_cut {h : Hd} {L : List Nat} {i x : Nat} (hx : L[i]? = some x) : txtI [] h L = txtI [] h (L.take i) ++ (lnI [] h x ++ [10]) ++ txtI [] h (L.drop (i + 1)) := by
  obtain ⟨hi, rfl⟩ := List.getElem?_eq_some_iff.1 hx
  have e : L = L.take i ++ (L[i] :: L.drop (i + 1)) := by rw [← List.drop_eq_getElem_cons hi, List.take_append_drop]
  conv => lhs; rw [e, txtI_append]
  have e2 : txtI [] h (L[i] :: L.drop (i + 1)) = (lnI [] h L[i] ++ [10]) ++ txtI [] h (L.drop (i + 1)) := rfl
  rw [e2, ← List.append_assoc]
theorem lines_txt {h : Hd} (hm : MayF h) : ∀ (L : List Nat), (∀ i ∈ L, i ≤ 5 ∧ hasI h i = true) → (lines (txtI [] h L)).length = L.length ∧ ∀ i x, L[i]? = some x → ∃ t, (lines (txtI [] h L))[i]? = some (offI h L i, t, offI h L i + (lnI [] h x).length + 1)
  | [], _ => ⟨by
      have : lines (txtI [] h []) = [] := by show lines [] = []; decide
      rw [this]; rfl, fun i x hx => by simp at hx⟩
  | y :: L, hL => by
    have hy := hL y (by simp)
    have hlow := lnI_low (g := []) hm hy.1 hy.2 nil_blk
    obtain ⟨ih1, ih2⟩ := lines_txt hm L fun i hi => hL i (List.mem_cons_of_mem _ hi)
    have e : txtI [] h (y :: L) = lnI [] h y ++ 10 :: txtI [] h L := by
      have : txtI [] h (y :: L) = (lnI [] h y ++ [10]) ++ txtI [] h L := rfl
      rw [this]; simp
    have hj := (lines_join (lnI [] h y) (txtI [] h L)).1
    rw [hlines_line fun x hx => (hlow x hx).1] at hj
    rw [e, hj]
    refine ⟨by simp [ih1], fun i x hx => ?_⟩
    cases i with
    | zero =>
      obtain rfl : y = x := by simpa using hx
      exact ⟨lineTo (lnI [] h y), by simp [offI, txtI]⟩
    | succ i =>
      obtain ⟨t, ht⟩ := ih2 i x (by simpa using hx)
      refine ⟨t + ((lnI [] h y).length + 1), ?_⟩
      have eo : offI h (y :: L) (i + 1) = offI h L i + ((lnI [] h y).length + 1) := by
        unfold offI
        rw [List.take_succ_cons]
        have : txtI [] h (y :: L.take i) = (lnI [] h y ++ [10]) ++ txtI [] h (L.take i) := rfl
        rw [this]
        simp only [List.length_append, List.length_cons, List.length_nil]
        omega
      rw [List.singleton_append, List.getElem?_cons_succ, List.getElem?_map, ht, eo]
      simp only [Option.map_some, shift3]
      congr 3
      omega
/-- A line of the text. -/
theorem cut_line {h : Hd} (hm : mayH h = true) {i x : Nat} (hx : (itemsL h)[i]? = some x) : offI h (itemsL h) i + (lnI [] h x).length + 1 ≤ (printE h).size ∧ (printE h).extract (offI h (itemsL h) i) (offI h (itemsL h) i + (lnI [] h x).length + 1) = bs (lnI [] h x ++ [10]) ∧
    (printE h).extract 0 (offI h (itemsL h) i) = bs (txtI [] h ((itemsL h).take i)) ∧ (printE h).extract (offI h (itemsL h) i + (lnI [] h x).length + 1) (printE h).size = bs (txtI [] h ((itemsL h).drop (i + 1))) := by
  have e := txtI_cut (h := h) hx
  have hs : (printE h).size = (txtI [] h (itemsL h)).length := by rw [← printE_txt hm]; simp
  have hl : (txtI [] h ((itemsL h).take i)).length = offI h (itemsL h) i := rfl
  have hn : (lnI [] h x ++ [10]).length = (lnI [] h x).length + 1 := by simp
  have ht := congrArg List.length e
  rw [List.length_append, List.length_append, hl, hn] at ht
  rw [hs, hprint_bs hm]
  refine ⟨by omega, ?_, ?_, ?_⟩
  · rw [extract_bs, e, List.append_assoc]
    have := hcut_high (txtI [] h ((itemsL h).take i)) ((lnI [] h x ++ [10]) ++ txtI [] h ((itemsL h).drop (i + 1))) 0 ((lnI [] h x).length + 1)
    rw [Nat.zero_add, hl] at this
    rw [show offI h (itemsL h) i + (lnI [] h x).length + 1 = (lnI [] h x).length + 1 + offI h (itemsL h) i by omega, this, hcut_low (by omega)]
    unfold cutL
    rw [List.extract_eq_take_drop, List.drop_zero, Nat.sub_zero, ← hn, List.take_length]
  · rw [extract_bs, e, List.append_assoc, hcut_low (by omega)]
    unfold cutL
    rw [List.extract_eq_take_drop, List.drop_zero, Nat.sub_zero, ← hl, List.take_length]
  · rw [extract_bs, e]
    have := hcut_high (txtI [] h ((itemsL h).take i) ++ (lnI [] h x ++ [10])) (txtI [] h ((itemsL h).drop (i + 1))) 0 (txtI [] h ((itemsL h).drop (i + 1))).length
    rw [Nat.zero_add, List.length_append, hl, hn] at this
    have hc : cutL (txtI [] h ((itemsL h).drop (i + 1))) 0 (txtI [] h ((itemsL h).drop (i + 1))).length = txtI [] h ((itemsL h).drop (i + 1)) := by
      unfold cutL
      rw [List.extract_eq_take_drop, List.drop_zero, Nat.sub_zero, List.take_length]
    rw [hc] at this
    rw [← e, ht, show offI h (itemsL h) i + (lnI [] h x).length + 1 = offI h (itemsL h) i + ((lnI [] h x).length + 1) by omega]
    rw [show offI h (itemsL h) i + ((lnI [] h x).length + 1) + (txtI [] h ((itemsL h).drop (i + 1))).length = (txtI [] h ((itemsL h).drop (i + 1))).length + (offI h (itemsL h) i + ((lnI [] h x).length + 1)) by omega, e, this]
theorem fold_items (h : Hd) {L : List Nat} : Pst h (L.foldl addS fun _ => false) = Pst h (fun j => decide (j ∈ L)) := by
  rw [fold_addS]
  congr 1
/-- A line that comes again. -/
theorem parse_twice {h : Hd} (hm : mayH h = true) {x : Nat} (hx : x ∈ itemsL h) : parseE (printE h ++ bs (lnI [] h x ++ [10])) = (hd0, 0, (printE h).size, 140) := by
  have hi := items_mem.1 hx
  have hs : (printE h).size = (txtI [] h (itemsL h)).length := by rw [← printE_txt hm]; simp
  rw [hs, hprint_bs hm, ← bs_append, parseE_bs, parse_items (mayF hm) nil_blk (fun _ => Iff.rfl) (items_nodup h), fold_items, run_item (mayF hm) hi.1 hi.2 nil_blk, if_pos (decide_eq_true hx)]
  simp only [shiftX, Nat.zero_add]
/-- A line of a key that there is not. -/
theorem parse_other {h : Hd} (hm : mayH h = true) {k : ByteArray} (hk : isKey k = true) (he : endB k = false) (hs : skipB k = false) (hp : hplaceE k < 0) : parseE (printE h ++ k ++ ⟨#[32, 58, 32, 49, 10]⟩) = (hd0, 0, (printE h).size, 140) := by
  have hsz : (printE h).size = (txtI [] h (itemsL h)).length := by rw [← printE_txt hm]; simp
  have e : printE h ++ k ++ ⟨#[32, 58, 32, 49, 10]⟩ = bs (txtI [] h (itemsL h) ++ (k.data.toList ++ [32] ++ 58 :: 32 :: [49] ++ 10 :: [])) := by
    apply bytes_ext
    rw [app_list, app_list, printE_txt hm, bs_list]
    simp
  rw [e, hsz, parseE_bs, parse_items (mayF hm) nil_blk (fun _ => Iff.rfl) (items_nodup h), run_colon hk [49] (by simp) [] _ (.inr ⟨he, .inr ⟨hs, hp⟩⟩), he, hs]
  simp only [Bool.false_eq_true, if_false]
  show (hd0, 0, 0 + (txtI [] h (itemsL h)).length, (140 : Int)) = _
  rw [Nat.zero_add]
theorem other_keys : ∀ k ∈ ([⟨#[88]⟩, ⟨#[78, 65, 77, 69, 83]⟩, ⟨#[83, 69, 67, 84, 73, 79, 78]⟩, ⟨#[67, 65, 80, 65, 67, 73, 84, 73, 69, 83]⟩] : List ByteArray), isKey k = true ∧ endB k = false ∧ skipB k = false ∧ hplaceE k < 0 := by decide +kernel
/-- Without a line. -/
theorem parse_lack {h : Hd} (hm : mayH h = true) {i x : Nat} (hx : (itemsL h)[i]? = some x) : parseE (bs (txtI [] h ((itemsL h).take i)) ++ bs (txtI [] h ((itemsL h).drop (i + 1))) ++ ⟨#[69, 79, 70, 10]⟩) = (hd0, 0, (txtI [] h ((itemsL h).take i)).length + (txtI [] h ((itemsL h).drop (i + 1))).length, 142) := by
  have hi : i < (itemsL h).length := (List.getElem?_eq_some_iff.1 hx).1
  have hnd := items_nodup h
  have esp : itemsL h = (itemsL h).take i ++ (x :: (itemsL h).drop (i + 1)) := by
    obtain ⟨_, rfl⟩ := List.getElem?_eq_some_iff.1 hx
    rw [← List.drop_eq_getElem_cons hi, List.take_append_drop]
  have hxm : x ∈ itemsL h := List.mem_of_getElem? hx
  have hxi := items_mem.1 hxm
  have hnd2 : ((itemsL h).take i ++ (itemsL h).drop (i + 1)).Nodup := by
    refine List.Nodup.sublist ?_ hnd
    conv => rhs; rw [esp]
    exact List.Sublist.append (List.Sublist.refl _) (List.sublist_cons_self _ _)
  have hmem : ∀ j, j ∈ (itemsL h).take i ++ (itemsL h).drop (i + 1) ↔ j ∈ itemsL h ∧ j ≠ x := fun j => by
    have hn := hnd
    rw [esp] at hn
    rw [List.nodup_append] at hn
    obtain ⟨_, h2, h3⟩ := hn
    have h4 := List.nodup_cons.1 h2
    conv => rhs; rw [esp]
    simp only [List.mem_append, List.mem_cons]
    constructor
    · rintro (hj | hj)
      · exact ⟨.inl hj, fun e => h3 j hj j (by simp [e]) rfl⟩
      · exact ⟨.inr (.inr hj), fun e => h4.1 (by rw [← e]; exact hj)⟩
    · rintro ⟨hj | hj | hj, hne⟩
      · exact .inl hj
      · exact absurd hj hne
      · exact .inr hj
  have e : bs (txtI [] h ((itemsL h).take i)) ++ bs (txtI [] h ((itemsL h).drop (i + 1))) ++ ⟨#[69, 79, 70, 10]⟩ = bs (txtI [] h ((itemsL h).take i ++ (itemsL h).drop (i + 1)) ++ (hkEof.data.toList ++ 10 :: [])) := by
    apply bytes_ext
    rw [app_list, app_list, bs_list, bs_list, bs_list, txtI_append]
    simp [hkEof]
  rw [e, parseE_bs, runA_cat (txtI_ends [] h _), pr0_st h, run_items (mayF hm) nil_blk _ _ (fun j hj => items_mem.1 ((hmem j).1 hj).1) hnd2 (fun _ _ => rfl)]
  have hst : runA (hkEof.data.toList ++ 10 :: []) (Pst h (((itemsL h).take i ++ (itemsL h).drop (i + 1)).foldl addS fun _ => false)) = .inr (Pst h (((itemsL h).take i ++ (itemsL h).drop (i + 1)).foldl addS fun _ => false), some 0) := run_stop_alone hk_eof.1 hk_eof.2 [] _
  have hlk : lackE (Pst h (((itemsL h).take i ++ (itemsL h).drop (i + 1)).foldl addS fun _ => false)) = true := by
    rw [fold_items]
    refine lack_head hxi.1 hxi.2 (fun j hj => ?_)
    rw [Bool.eq_iff_iff]
    simp only [decide_eq_true_iff, Bool.and_eq_true, Bool.not_eq_true', decide_eq_false_iff_not]
    rw [hmem, items_mem]
    exact ⟨fun h => ⟨h.1.2, h.2⟩, fun h => ⟨⟨hj, h.1⟩, h.2⟩⟩
  simp only [andX]
  rw [hst]
  simp only [shiftX, Option.map_some]
  rw [if_pos hlk, txtI_append, List.length_append, Nat.zero_add]
/-! In another order, with a remark. -/
/-- A line of a remark, and a blank one. -/
def remL (r : List UInt8) : List UInt8 := hkCom.data.toList ++ [32] ++ 58 :: 32 :: r ++ 10 :: [9, 10]
theorem run_rem (r : List UInt8) (hr : ∀ x ∈ r, x ≠ 10) (p : Pr) : runA (remL r) p = .inr (p, none) := by
  unfold remL
  rw [run_colon hk_com.1 r hr [9, 10] p (.inr ⟨hk_com.2.1, .inl hk_com.2.2⟩), hk_com.2.1, hk_com.2.2]
  simp only [Bool.false_eq_true, if_false, if_true]
  rw [show ([9, 10] : List UInt8) = 9 :: 10 :: [] from rfl, run_blank 9 (by decide), runA_nil]
  rfl
theorem rem_ends (r : List UInt8) : Ends10 (remL r) := .inr ⟨hkCom.data.toList ++ [32] ++ 58 :: 32 :: r ++ 10 :: [9], by unfold remL; simp⟩
/-- The text with its lines turned, so far. -/
def turnT (h : Hd) (L : List Nat) (by_ at_ : Nat) (r : List UInt8) : Nat → List UInt8
  | 0 => []
  | i + 1 => turnT h L by_ at_ r i ++ (if i = at_ then remL r else []) ++ (lnI [32] h (L.getD ((i + by_) % L.length) 0) ++ [10])
theorem turn_ends (h : Hd) (L : List Nat) (by_ at_ : Nat) (r : List UInt8) : ∀ i, Ends10 (turnT h L by_ at_ r i)
  | 0 => .inl rfl
  | i + 1 => by
    unfold turnT
    refine Ends10.cat (Ends10.cat (turn_ends h L by_ at_ r i) ?_) (.inr ⟨_, rfl⟩)
    split
    · exact rem_ends r
    · exact .inl rfl
/-- The lines taken so far. -/
def turnS (L : List Nat) (by_ i : Nat) : Nat → Bool := fun j => decide (∃ a, a < i ∧ L.getD ((a + by_) % L.length) 0 = j)
theorem run_turn {h : Hd} (hm : MayF h) {L : List Nat} (hL : ∀ i ∈ L, i ≤ 5 ∧ hasI h i = true) (hn : L.Nodup) (by_ at_ : Nat) {r : List UInt8} (hr : ∀ x ∈ r, x ≠ 10) : ∀ i, i ≤ L.length → runA (turnT h L by_ at_ r i) pr0 = .inr (Pst h (turnS L by_ i), none)
  | 0, _ => by
    show runA [] pr0 = _
    rw [runA_nil, pr0_st h]
    congr 3
  | i + 1, hi => by
    have ih := run_turn hm hL hn by_ at_ hr i (by omega)
    have hlt : (i + by_) % L.length < L.length := Nat.mod_lt _ (by omega)
    obtain ⟨x, hx⟩ : ∃ x, L[(i + by_) % L.length]? = some x := ⟨_, List.getElem?_eq_getElem hlt⟩
    have hxd : L.getD ((i + by_) % L.length) 0 = x := by rw [List.getD_eq_getElem?_getD, hx]; rfl
    have hxm := hL x (List.mem_of_getElem? hx)
    have e1 : runA (turnT h L by_ at_ r i ++ (if i = at_ then remL r else [])) pr0 = .inr (Pst h (turnS L by_ i), none) := by
      rw [runA_cat (turn_ends h L by_ at_ r i), ih]
      show shiftX _ (runA (if i = at_ then remL r else []) (Pst h (turnS L by_ i))) = _
      split
      · rw [run_rem r hr]; rfl
      · rw [runA_nil]; rfl
    have he : Ends10 (turnT h L by_ at_ r i ++ (if i = at_ then remL r else [])) := by
      refine Ends10.cat (turn_ends h L by_ at_ r i) ?_
      split
      · exact rem_ends r
      · exact .inl rfl
    have hnot : turnS L by_ i x = false := by
      unfold turnS
      refine decide_eq_false ?_
      rintro ⟨a, ha, hax⟩
      have hla : (a + by_) % L.length < L.length := Nat.mod_lt _ (by omega)
      have h2 : L[(a + by_) % L.length]? = some x := by
        rw [List.getElem?_eq_getElem hla]
        rw [List.getD_eq_getElem?_getD, List.getElem?_eq_getElem hla] at hax
        exact congrArg some hax
      have h3 := (List.getElem?_inj hla hn).1 (h2.trans hx.symm)
      have h4 : (a + by_) % L.length = (i + by_) % L.length := h3
      have h5 : (i - a) % L.length = 0 := by
        have : (i + by_) % L.length = (a + by_ + (i - a)) % L.length := by rw [show a + by_ + (i - a) = i + by_ by omega]
        rw [this] at h4
        have := Nat.sub_mod_eq_zero_of_mod_eq h4.symm
        rwa [Nat.add_sub_cancel_left] at this
      rw [Nat.mod_eq_of_lt (by omega)] at h5
      omega
    unfold turnT
    rw [runA_cat he, e1, hxd]
    show shiftX _ (runA (lnI [32] h x ++ [10]) (Pst h (turnS L by_ i))) = _
    rw [run_item hm hxm.1 hxm.2 blk_one, if_neg (show ¬ turnS L by_ i x = true by rw [hnot]; decide)]
    show (Sum.inr (Pst h (addS (turnS L by_ i) x), none) : (Nat × Int) ⊕ (Pr × Option Nat)) = _
    congr 3
    funext j
    unfold addS turnS
    rw [Bool.eq_iff_iff]
    simp only [Bool.or_eq_true, decide_eq_true_iff]
    constructor
    · rintro (⟨a, ha, h1⟩ | h1)
      · exact ⟨a, by omega, h1⟩
      · exact ⟨i, by omega, by rw [hxd]; exact h1.symm⟩
    · rintro ⟨a, ha, h1⟩
      by_cases hai : a < i
      · exact .inl ⟨a, hai, h1⟩
      · obtain rfl : a = i := by omega
        rw [hxd] at h1
        exact .inr h1.symm
theorem parse_turn {h : Hd} (hm : mayH h = true) (by_ at_ : Nat) {r : List UInt8} (hr : ∀ x ∈ r, x ≠ 10) : parseE (bs (turnT h (itemsL h) by_ at_ r (itemsL h).length)) = (h, (turnT h (itemsL h) by_ at_ r (itemsL h).length).length, 0, 0) := by
  have hlen := items_len h
  have hr2 := run_turn (mayF hm) (L := itemsL h) (fun i hi => items_mem.1 hi) (items_nodup h) by_ at_ hr _ (Nat.le_refl _)
  obtain ⟨h1, h2⟩ := full_head (mayF hm) (S := turnS (itemsL h) by_ (itemsL h).length) (fun j hj => by
    unfold turnS
    rw [Bool.eq_iff_iff, decide_eq_true_iff]
    constructor
    · rintro ⟨a, _, h1⟩
      have hla : (a + by_) % (itemsL h).length < (itemsL h).length := Nat.mod_lt _ (by omega)
      rw [List.getD_eq_getElem?_getD, List.getElem?_eq_getElem hla] at h1
      have : j ∈ itemsL h := by rw [← (show (itemsL h)[(a + by_) % (itemsL h).length] = j from h1)]; exact List.getElem_mem hla
      exact (items_mem.1 this).2
    · intro hj2
      obtain ⟨b, hb, hbj⟩ := List.getElem_of_mem (items_mem.2 ⟨hj, hj2⟩)
      obtain ⟨n, hn⟩ : ∃ n, (itemsL h).length = n := ⟨_, rfl⟩
      rw [hn] at hb ⊢
      have hn0 : 0 < n := by omega
      refine ⟨(b + (n - by_ % n)) % n, Nat.mod_lt _ hn0, ?_⟩
      have e : ((b + (n - by_ % n)) % n + by_) % n = b := by
        have hmb := Nat.mod_lt by_ hn0
        rw [Nat.mod_add_mod]
        have : b + (n - by_ % n) + by_ = b + n * (by_ / n + 1) := by
          have := Nat.div_add_mod by_ n
          rw [Nat.mul_add, Nat.mul_one]
          omega
        rw [this, Nat.add_mul_mod_self_left, Nat.mod_eq_of_lt hb]
      rw [e, List.getD_eq_getElem?_getD, List.getElem?_eq_getElem (by omega)]
      exact hbj)
  rw [parseE_bs, hr2]
  show (if lackE (Pst h (turnS (itemsL h) by_ (itemsL h).length)) = true then _ else _) = _
  rw [h2, if_neg (by decide)]
  have h3 : (Pst h (turnS (itemsL h) by_ (itemsL h).length)).h = h := h1
  rw [h3]
end Go.Hdr
