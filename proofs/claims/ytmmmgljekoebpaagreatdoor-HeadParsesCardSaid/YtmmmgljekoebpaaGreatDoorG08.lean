/- Plain facts on words that are put together with blanks between; no program. -/
import Derived.Test.YtmmmgljekoebpaaGreatDoorG03
import Derived.Test.YtmmmgljekoebpaaGreatDoorG05
import Derived.Test.YtmmmgljekoebpaaGreatDoorG07
import Derived.Test.YtmmmgljekoebpaaGreatDoorG04
import Derived.Deep.DeepCutAuto
import Derived.Test.YtmmmgljekoebpaaGreatDoorG01
namespace Go.Wds
/-- The bytes from p up to q. -/
def tx (l : List UInt8) (p q : Nat) : List UInt8 := (l.drop p).take (q - p)
theorem tx_append {l r : List UInt8} {p q : Nat} (hq : q ≤ l.length) : tx (l ++ r) p q = tx l p q := by
  unfold tx
  by_cases h : p ≤ q
  · rw [List.drop_append_of_le_length (by omega), List.take_append_of_le_length (by simp; omega)]
  · rw [show q - p = 0 from by omega, List.take_zero, List.take_zero]
theorem tx_mid (l w r : List UInt8) : tx (l ++ w ++ r) l.length (l.length + w.length) = w := by
  unfold tx
  rw [List.append_assoc, List.drop_left, Nat.add_sub_cancel_left, List.take_left]
/-- A word more at the end of a text that ends in a blank. -/
theorem runs_snoc {l w z : List UInt8} (hl : ∀ x, l[l.length - 1]? = some x → blk x = true) (hw : ∀ x ∈ w, blk x = false) (hw0 : w ≠ []) (hz : ∀ x ∈ z, blk x = true) (hz0 : z ≠ []) :
    ∀ (qs : List (Nat × Nat)) (a : Nat), a ≤ l.length → Runs l l.length a qs → Runs (l ++ w ++ z) (l ++ w ++ z).length a (qs ++ [(l.length, l.length + w.length)])
  | [], a, ha, h => by
    have hwl : 0 < w.length := List.length_pos_iff.2 hw0
    have hzl : 0 < z.length := List.length_pos_iff.2 hz0
    refine ⟨ha, by omega, by simp, fun j x h1 h2 h3 => ?_, fun j x h1 h2 h3 => ?_, fun h1 x h2 => ?_, fun j x h1 h2 h3 => ?_⟩
    · rw [List.append_assoc, List.getElem?_append_left h2] at h3
      exact h j x h1 h2 h3
    · rw [List.append_assoc, List.getElem?_append_right h1, List.getElem?_append_left (by omega)] at h3
      exact hw x (List.mem_of_getElem? h3)
    · rw [List.getElem?_append_right (by simp)] at h2
      exact hz x (List.mem_of_getElem? h2)
    · rw [List.getElem?_append_right (by simp; omega)] at h3
      exact hz x (List.mem_of_getElem? h3)
  | (p, q) :: qs, a, ha, h => by
    obtain ⟨h1, h2, h3, h4, h5, h6, h7⟩ := h
    have hql : q < l.length := by
      rcases Nat.lt_or_ge q l.length with h | h
      · exact h
      · obtain ⟨x, hx⟩ := at_len (l := l) (j := l.length - 1) (by omega)
        have e1 := hl x hx
        rw [h5 (l.length - 1) x (by omega) (by omega) hx] at e1
        cases e1
    refine ⟨h1, h2, by simp; omega, fun j x i1 i2 i3 => ?_, fun j x i1 i2 i3 => ?_, fun _ x i2 => ?_, runs_snoc hl hw hw0 hz hz0 qs q h3 h7⟩
    · rw [List.append_assoc, List.getElem?_append_left (by omega)] at i3
      exact h4 j x i1 i2 i3
    · rw [List.append_assoc, List.getElem?_append_left (by omega)] at i3
      exact h5 j x i1 i2 i3
    · rw [List.append_assoc, List.getElem?_append_left hql] at i2
      exact h6 hql x i2

/-- t is the first i of the words ps of l, put together; in it they are qs. -/
def Built (l : List UInt8) (ps : List (Nat × Nat)) (i : Nat) (t : List UInt8) (qs : List (Nat × Nat)) : Prop :=
  qs.length = i ∧ Runs t t.length 0 qs ∧ (∀ x, t[t.length - 1]? = some x → blk x = true) ∧ 0 < t.length ∧
  ∀ j p q, j < i → ps[j]? = some (p, q) → ∃ p' q', qs[j]? = some (p', q') ∧ p' ≤ q' ∧ q' ≤ t.length ∧ tx t p' q' = tx l p q
theorem built_start (l : List UInt8) (ps : List (Nat × Nat)) : Built l ps 0 [9] [] := by
  refine ⟨rfl, fun j x h1 h2 h3 => ?_, fun x hx => ?_, by simp, fun j p q h => by omega⟩
  · have e : j = 0 := by simp at h2; omega
    subst e
    cases h3; rfl
  · cases hx; rfl
theorem built_step {l : List UInt8} {ps qs : List (Nat × Nat)} {i p q : Nat} {t z : List UInt8} (h : Built l ps i t qs) (hp : ps[i]? = some (p, q)) (hpq : p < q) (hq : q ≤ l.length) (hi : Ink l p q) (hz : ∀ x ∈ z, blk x = true) (hz0 : z ≠ []) :
    Built l ps (i + 1) (t ++ tx l p q ++ z) (qs ++ [(t.length, t.length + (q - p))]) := by
  obtain ⟨h1, h2, h3, h4, h5⟩ := h
  have hwl : (tx l p q).length = q - p := by unfold tx; simp; omega
  have hw : ∀ x ∈ tx l p q, blk x = false := fun x hx => by
    obtain ⟨j, hj⟩ := List.mem_iff_getElem?.1 hx
    have hjl : j < q - p := by have := (List.getElem?_eq_some_iff.1 hj).1; omega
    unfold tx at hj
    rw [List.getElem?_take_of_lt hjl, List.getElem?_drop] at hj
    exact hi _ x (by omega) (by omega) hj
  have hw0 : tx l p q ≠ [] := fun e => by rw [e] at hwl; simp at hwl; omega
  have hr := runs_snoc h3 hw hw0 hz hz0 qs 0 (Nat.zero_le _) h2
  rw [hwl] at hr
  refine ⟨by simp [h1], hr, fun x hx => ?_, by simp; omega, fun j a b hj hab => ?_⟩
  · have hzl : 0 < z.length := List.length_pos_iff.2 hz0
    rw [List.getElem?_append_right (by simp; omega)] at hx
    exact hz x (List.mem_of_getElem? hx)
  · by_cases e : j = i
    · subst e
      rw [hp] at hab
      cases hab
      refine ⟨t.length, t.length + (q - p), by rw [List.getElem?_append_right (by omega), h1, Nat.sub_self]; rfl, by omega, by simp; omega, ?_⟩
      rw [← hwl]
      exact tx_mid _ _ _
    · obtain ⟨p', q', g1, g2, g3, g4⟩ := h5 j a b (by omega) hab
      refine ⟨p', q', by rw [List.getElem?_append_left (by omega)]; exact g1, g2, by simp; omega, ?_⟩
      rw [List.append_assoc, tx_append g3]
      exact g4
theorem built_end {l : List UInt8} {ps qs : List (Nat × Nat)} {t : List UInt8} (h : Built l ps ps.length t qs) : wordsL t 0 t.length = qs :=
  runs_eq (Nat.le_refl _) (runs_of (Nat.zero_le _) (Nat.le_refl _)) h.2.1

/-- Words, one by one: what stands ahead of the word m ends at a. -/
def Ahead (l : List UInt8) (ps : List (Nat × Nat)) (m a : Nat) : Prop := m ≤ ps.length → Runs l l.length a (ps.drop m)
theorem ahead_step {l : List UInt8} {ps : List (Nat × Nat)} {m a p q : Nat} (h : Ahead l ps m a) (hp : ps[m]? = some (p, q)) :
    a ≤ p ∧ p < q ∧ q ≤ l.length ∧ Ink l p q ∧ Ahead l ps (m + 1) q := by
  obtain ⟨hm, e⟩ := List.getElem?_eq_some_iff.1 hp
  have h1 := h (by omega)
  rw [List.drop_eq_getElem_cons hm, e] at h1
  obtain ⟨g1, g2, g3, g4, g5, g6, g7⟩ := h1
  exact ⟨g1, g2, g3, g5, fun _ => g7⟩
/-- Each word has a byte. -/
theorem runs_pos {l : List UInt8} {b : Nat} : ∀ {ps : List (Nat × Nat)} {a : Nat}, Runs l b a ps → ∀ {i p q : Nat}, ps[i]? = some (p, q) → p < q ∧ q ≤ b
  | [], a, h, i, p, q, hp => by simp at hp
  | (p', q') :: ps, a, h, 0, p, q, hp => by
    simp at hp
    obtain ⟨rfl, rfl⟩ := hp
    exact ⟨h.2.1, h.2.2.1⟩
  | (p', q') :: ps, a, h, i + 1, p, q, hp => runs_pos h.2.2.2.2.2.2 (by simpa using hp)
end Go.Wds
/- Plain facts: the key and the value of a text that is put together of a key, a colon, a value, and blanks; no program. -/
namespace Go.Wds
open Go.Proofs
/-- n blanks. -/
def gapL (n : Nat) : List UInt8 := List.replicate n 32
def gapS (n : Nat) : ByteArray := ⟨(gapL n).toArray⟩
theorem gap_step (n : Nat) : gapS n ++ (⟨#[32]⟩ : ByteArray) = gapS (n + 1) := by
  unfold gapS gapL
  rw [ByteArray.mk_append_mk, List.replicate_succ']
theorem gap_size (n : Nat) : (gapS n).size = n := by show (List.toArray _).size = n; simp [gapL]
theorem gap_list (n : Nat) : (gapS n).data.toList = gapL n := by simp [gapS]
theorem gap_get {n j : Nat} {x : UInt8} (h : (gapL n)[j]? = some x) : x = 32 := by
  have := List.mem_of_getElem? h
  exact (List.mem_replicate.1 this).2
theorem gap_len (n : Nat) : (gapL n).length = n := by simp [gapL]

theorem app_list (a b : ByteArray) : (a ++ b).data.toList = a.data.toList ++ b.data.toList := by rw [ByteArray.data_append, Array.toList_append]
theorem bytes_ext {a b : ByteArray} (h : a.data.toList = b.data.toList) : a = b := by
  cases a; cases b
  exact congrArg ByteArray.mk (Array.toList_inj.1 h)
theorem extract_list (s : ByteArray) (p q : Nat) : (s.extract p q).data.toList = tx s.data.toList p q := by
  unfold tx
  simp [ByteArray.data_extract, List.extract_eq_take_drop]

/-- What a key's bytes are: no blanks, no colons. -/
theorem key_byte {k : ByteArray} (h : isKey k = true) : 1 ≤ k.size ∧ k.size ≤ 40 ∧ ∀ x ∈ k.data.toList, blk x = false ∧ colB x = false := by
  unfold isKey fitL at h
  rw [Bool.and_eq_true, Bool.and_eq_true, decide_eq_true_iff, decide_eq_true_iff] at h
  have hl : k.data.toList.length = k.size := by simp
  rw [hl] at h
  refine ⟨h.1.1, h.1.2, fun x hx => ?_⟩
  have h2 := List.all_eq_true.1 (show k.data.toList.all (ofB keyP) = true from h.2) x hx
  unfold ofB at h2
  rw [keyP_eq, decide_eq_true_iff] at h2
  unfold blk colB
  constructor
  · rw [Bool.or_eq_false_iff, beq_eq_false_iff_ne, beq_eq_false_iff_ne]
    constructor
    · intro e; subst e; revert h2; decide
    · intro e; subst e; revert h2; decide
  · rw [beq_eq_false_iff_ne]
    intro e; subst e; revert h2; decide

theorem get_three {a b c : List UInt8} {j : Nat} {x : UInt8} (h : (a ++ b ++ c)[j]? = some x) : (j < a.length ∧ a[j]? = some x) ∨ (a.length ≤ j ∧ j < a.length + b.length ∧ b[j - a.length]? = some x) ∨ (a.length + b.length ≤ j ∧ c[j - (a.length + b.length)]? = some x) := by
  rcases Nat.lt_or_ge j a.length with h1 | h1
  · rw [List.append_assoc, List.getElem?_append_left h1] at h
    exact .inl ⟨h1, h⟩
  · rcases Nat.lt_or_ge j (a.length + b.length) with h2 | h2
    · rw [List.append_assoc, List.getElem?_append_right h1, List.getElem?_append_left (by omega)] at h
      exact .inr (.inl ⟨h1, h2, h⟩)
    · rw [List.getElem?_append_right (by simp; omega)] at h
      simp only [List.length_append] at h
      exact .inr (.inr ⟨h2, h⟩)
theorem get_mid {a b c : List UInt8} {j : Nat} (h1 : a.length ≤ j) (h2 : j < a.length + b.length) : (a ++ b ++ c)[j]? = b[j - a.length]? := by
  rw [List.append_assoc, List.getElem?_append_right h1, List.getElem?_append_left (by omega)]

/-- A part of blanks, of what is trimmed, and of blanks. -/
theorem trim_mid {a k c r : List UInt8} {e : Nat} (ha : ∀ x ∈ a, blk x = true) (hc : ∀ x ∈ c, blk x = true) (hk0 : k ≠ []) (hf : ∀ x, k[0]? = some x → blk x = false) (hl : ∀ x, k[k.length - 1]? = some x → blk x = false) (he : e = a.length + k.length + c.length) :
    IsTrim (a ++ k ++ c ++ r) 0 e a.length (a.length + k.length) := by
  have hkl : 0 < k.length := List.length_pos_iff.2 hk0
  refine ⟨Nat.zero_le _, by omega, by omega, fun j x h1 h2 h3 => ?_, fun j x h1 h2 h3 => ?_, fun h => by omega, fun _ => ⟨fun x hx => ?_, fun x hx => ?_⟩⟩
  · rw [List.append_assoc, List.append_assoc, List.getElem?_append_left h2] at h3
    exact ha x (List.mem_of_getElem? h3)
  · rw [List.getElem?_append_left (by simp; omega), List.getElem?_append_right (by simp; omega)] at h3
    exact hc x (List.mem_of_getElem? h3)
  · rw [List.getElem?_append_left (by simp; omega), get_mid (Nat.le_refl _) (by omega), Nat.sub_self] at hx
    exact hf x hx
  · rw [List.getElem?_append_left (by simp; omega), get_mid (by omega) (by omega), show a.length + k.length - 1 - a.length = k.length - 1 from by omega] at hx
    exact hl x hx
end Go.Wds
namespace Go.Wds
open Go.Proofs
theorem trim_shift {P M : List UInt8} {F T : Nat} (h : IsTrim M 0 M.length F T) : IsTrim (P ++ M) P.length (P ++ M).length (P.length + F) (P.length + T) := by
  obtain ⟨h1, h2, h3, h4, h5, h6, h7⟩ := h
  have e : ∀ j, (P ++ M)[P.length + j]? = M[j]? := fun j => by rw [List.getElem?_append_right (by omega), Nat.add_sub_cancel_left]
  refine ⟨by omega, by omega, by simp; omega, fun j x i1 i2 i3 => ?_, fun j x i1 i2 i3 => ?_, fun i1 => ?_, fun i1 => ⟨fun x i2 => ?_, fun x i2 => ?_⟩⟩
  · have := e (j - P.length)
    rw [show P.length + (j - P.length) = j from by omega] at this
    rw [this] at i3
    exact h4 _ x (by omega) (by omega) i3
  · have := e (j - P.length)
    rw [show P.length + (j - P.length) = j from by omega] at this
    rw [this] at i3
    simp at i2
    exact h5 _ x (by omega) (by omega) i3
  · have := h6 (by omega)
    simp; omega
  · rw [e] at i2
    exact (h7 (by omega)).1 x i2
  · rw [show P.length + T - 1 = P.length + (T - 1) from by omega, e] at i2
    exact (h7 (by omega)).2 x i2
theorem gap_blank (g : Nat) : ∀ x ∈ gapL g, blk x = true := fun x hx => by
  rw [(List.mem_replicate.1 hx).2]; rfl
theorem gap_colon {g : Nat} : ∀ x ∈ gapL g, colB x = false := fun x hx => by
  rw [(List.mem_replicate.1 hx).2]; rfl
theorem trimL_of {l : List UInt8} {a b F T : Nat} (hab : a ≤ b) (hb : b ≤ l.length) (h : IsTrim l a b F T) : trimL l a b = (F, T) := by
  obtain ⟨h1, h2⟩ := trim_unique hb (is_trim hab hb) h
  exact Prod.ext h1 h2

/-- No blank at the ends. -/
def Bare (l : List UInt8) : Prop := (∀ x, l[0]? = some x → blk x = false) ∧ ∀ x, l[l.length - 1]? = some x → blk x = false
theorem bare_of {l : List UInt8} (h : trimL l 0 l.length = (0, l.length)) : Bare l := by
  have ht := is_trim (l := l) (Nat.zero_le _) (Nat.le_refl _)
  rw [h] at ht
  obtain ⟨h1, h2, h3, h4, h5, h6, h7⟩ := ht
  by_cases e : 0 < l.length
  · exact h7 e
  · refine ⟨fun x hx => ?_, fun x hx => ?_⟩
    · have := (List.getElem?_eq_some_iff.1 hx).1; omega
    · have := (List.getElem?_eq_some_iff.1 hx).1; omega

theorem key_bare {k : ByteArray} (h : isKey k = true) : k.data.toList ≠ [] ∧ Bare k.data.toList := by
  obtain ⟨h1, h2, h3⟩ := key_byte h
  have hl : k.data.toList.length = k.size := by simp
  exact ⟨fun e => by rw [e] at hl; simp at hl; omega, fun x hx => (h3 x (List.mem_of_getElem? hx)).1, fun x hx => (h3 x (List.mem_of_getElem? hx)).1⟩

/-- A key alone, and blanks. -/
theorem pair_alone {k : ByteArray} (hk : isKey k = true) (g : Nat) : KeyIs (k ++ gapS g) 0 (((k ++ gapS g).size : Nat) : Int) k (k ++ gapS g).size (k ++ gapS g).size true := by
  have hls : (k ++ gapS g).data.toList = [] ++ k.data.toList ++ gapL g ++ [] := by rw [app_list, gap_list]; simp
  have hll : (k ++ gapS g).data.toList.length = (k ++ gapS g).size := by simp
  have hkl : k.data.toList.length = k.size := by simp
  obtain ⟨hk0, hkf, hkl2⟩ := key_bare hk
  obtain ⟨_, _, hkb⟩ := key_byte hk
  have hsz : (k ++ gapS g).size = k.size + g := by rw [ByteArray.size_append, gap_size]
  have hc : seekL colB (k ++ gapS g).data.toList 0 (k ++ gapS g).size = (k ++ gapS g).size := by
    refine seek_eq (Nat.zero_le _) (Nat.le_refl _) (fun j c _ _ h => ?_) (fun h => by omega)
    have hm := List.mem_of_getElem? h
    rw [app_list, gap_list, List.mem_append] at hm
    rcases hm with hm | hm
    · exact (hkb c hm).2
    · exact gap_colon c hm
  have ht := trim_mid (a := []) (k := k.data.toList) (c := gapL g) (r := []) (e := (k ++ gapS g).size) (by simp) (gap_blank g) hk0 hkf hkl2 (by rw [gap_len, hkl, hsz]; simp)
  rw [← hls] at ht
  have htr := trimL_of (Nat.zero_le _) (by rw [hll]; exact Nat.le_refl _) ht
  have hkey : keyPart (k ++ gapS g) 0 (k ++ gapS g).size = k := by
    unfold keyPart
    rw [hc, htr]
    apply bytes_ext
    rw [extract_list, hls]
    have := tx_mid [] k.data.toList (gapL g)
    simpa using this
  have := KeyIs.alone (s := k ++ gapS g) 0 (k ++ gapS g).size (Nat.zero_le _) (Nat.le_refl _) (by rw [hkey]; exact hk) hc
  rwa [hkey] at this

/-- The text of a key, a colon and a value, and blanks. -/
def pairS (k v : ByteArray) (g : Nat) : ByteArray := gapS g ++ k ++ gapS g ++ (⟨#[58]⟩ : ByteArray) ++ gapS g ++ v ++ gapS g
theorem pair_both {k v : ByteArray} (hk : isKey k = true) (hv : Bare v.data.toList) (g : Nat) :
    ∃ i j, KeyIs (pairS k v g) 0 (((pairS k v g).size : Nat) : Int) k i j true ∧ i ≤ j ∧ j ≤ (pairS k v g).size ∧ (pairS k v g).extract i j = v := by
  have hkl : k.data.toList.length = k.size := by simp
  obtain ⟨hk0, hkf, hkl2⟩ := key_bare hk
  obtain ⟨_, _, hkb⟩ := key_byte hk
  obtain ⟨S, hS⟩ : ∃ S, pairS k v g = S := ⟨_, rfl⟩
  rw [hS]
  have hls : S.data.toList = (gapL g ++ k.data.toList ++ gapL g ++ [58]) ++ (gapL g ++ v.data.toList ++ gapL g) := by
    rw [← hS]; unfold pairS
    simp only [app_list, gap_list, List.append_assoc]
  have hll : S.data.toList.length = S.size := by simp
  have hlen : S.size = (g + k.size + g + 1) + (g + v.data.toList.length + g) := by
    rw [← hll, hls]; simp only [List.length_append, gap_len, hkl, List.length_cons, List.length_nil]
  have hc58 : S.data.toList[g + k.size + g]? = some 58 := by
    rw [hls, List.getElem?_append_left (by simp only [List.length_append, gap_len, hkl, List.length_cons, List.length_nil]; omega), List.getElem?_append_right (by simp only [List.length_append, gap_len, hkl]; omega)]
    simp only [List.length_append, gap_len, hkl, Nat.sub_self]
    rfl
  have hc : seekL colB S.data.toList 0 S.size = g + k.size + g := by
    refine seek_eq (Nat.zero_le _) (by omega) (fun j c _ h1 h => ?_) (fun _ => ⟨58, hc58, rfl⟩)
    rw [hls, List.getElem?_append_left (by simp only [List.length_append, gap_len, hkl, List.length_cons, List.length_nil]; omega), List.getElem?_append_left (by simp only [List.length_append, gap_len, hkl]; omega)] at h
    have hm := List.mem_of_getElem? h
    rw [List.mem_append, List.mem_append] at hm
    rcases hm with (hm | hm) | hm
    · exact gap_colon c hm
    · exact (hkb c hm).2
    · exact gap_colon c hm
  have ht := trim_mid (a := gapL g) (k := k.data.toList) (c := gapL g) (r := [58] ++ (gapL g ++ v.data.toList ++ gapL g)) (e := g + k.size + g) (gap_blank g) (gap_blank g) hk0 hkf hkl2 (by rw [gap_len, hkl])
  rw [← List.append_assoc, ← hls, gap_len, hkl] at ht
  have htr := trimL_of (Nat.zero_le _) (by rw [hll]; omega) ht
  have hkey : keyPart S 0 S.size = k := by
    unfold keyPart
    rw [hc, htr]
    apply bytes_ext
    rw [extract_list, hls]
    have := tx_mid (gapL g) k.data.toList (gapL g ++ [58] ++ (gapL g ++ v.data.toList ++ gapL g))
    rw [gap_len, hkl] at this
    refine Eq.trans ?_ this
    simp only [List.append_assoc]
  have hb := KeyIs.both (s := S) 0 S.size (Nat.zero_le _) (Nat.le_refl _) (by rw [hkey]; exact hk) (by rw [hc]; omega)
  rw [hkey, hc] at hb
  have hPl : (gapL g ++ k.data.toList ++ gapL g ++ [58]).length = g + k.size + g + 1 := by simp only [List.length_append, gap_len, hkl, List.length_cons, List.length_nil]
  have hM : IsTrim (gapL g ++ v.data.toList ++ gapL g) 0 (gapL g ++ v.data.toList ++ gapL g).length (if v.data.toList = [] then g + g else g) (if v.data.toList = [] then g + g else g + v.data.toList.length) := by
    by_cases h0 : v.data.toList = []
    · rw [if_pos h0, if_pos h0, h0, List.append_nil]
      refine ⟨Nat.zero_le _, Nat.le_refl _, by simp only [List.length_append, gap_len]; exact Nat.le_refl _, fun j x _ _ h => ?_, fun j x h1 h2 h => ?_, fun _ => by simp only [List.length_append, gap_len], fun h => by omega⟩
      · have hm := List.mem_of_getElem? h
        rw [List.mem_append] at hm
        rcases hm with hm | hm <;> exact gap_blank g x hm
      · simp only [List.length_append, gap_len] at h2; omega
    · rw [if_neg h0, if_neg h0]
      have := trim_mid (a := gapL g) (k := v.data.toList) (c := gapL g) (r := []) (e := (gapL g ++ v.data.toList ++ gapL g).length) (gap_blank g) (gap_blank g) h0 hv.1 hv.2 (by simp only [List.length_append])
      rw [List.append_nil, gap_len] at this
      exact this
  have hM2 := trim_shift (P := gapL g ++ k.data.toList ++ gapL g ++ [58]) hM
  rw [← hls, hPl, hll] at hM2
  have htr2 := trimL_of (by omega) (by rw [hll]; exact Nat.le_refl _) hM2
  rw [htr2] at hb
  refine ⟨_, _, hb, hM2.2.1, hM2.2.2.1, ?_⟩
  apply bytes_ext
  rw [extract_list]
  by_cases h0 : v.data.toList = []
  · rw [if_pos h0, if_pos h0, h0]
    unfold tx
    rw [Nat.sub_self, List.take_zero]
  · rw [if_neg h0, if_neg h0, hls]
    have := tx_mid ((gapL g ++ k.data.toList ++ gapL g ++ [58]) ++ gapL g) v.data.toList (gapL g)
    rw [List.length_append, hPl, gap_len] at this
    refine Eq.trans ?_ this
    simp only [List.append_assoc, Nat.add_assoc]
end Go.Wds
/- Plain facts of layer 14: keys and rows of a text, a line feed, and another text. No program. -/
namespace Go.Hdr
open Go.Wds Go.Proofs Go.Cur Go.Fx Go.Metric Go.Layout
/-- Bytes of a list. -/
def bs (l : List UInt8) : ByteArray := ⟨l.toArray⟩
theorem bs_list (l : List UInt8) : (bs l).data.toList = l := rfl
theorem bs_eta (s : ByteArray) : bs s.data.toList = s := rfl
theorem bs_size (l : List UInt8) : (bs l).size = l.length := by show l.toArray.size = _; simp
theorem bs_append (a b : List UInt8) : bs (a ++ b) = bs a ++ bs b := bytes_ext (by rw [app_list]; rfl)
theorem hruns_low {l r : List UInt8} {b : Nat} (hb : b ≤ l.length) : ∀ {qs : List (Nat × Nat)} {a : Nat}, Runs l b a qs → Runs (l ++ r) b a qs
  | [], a, h => fun j x h1 h2 h3 => h j x h1 h2 (by rw [List.getElem?_append_left (by omega)] at h3; exact h3)
  | (p, q) :: qs, a, ⟨h1, h2, h3, h4, h5, h6, h7⟩ =>
    ⟨h1, h2, h3, fun j x i1 i2 i3 => h4 j x i1 i2 (by rw [List.getElem?_append_left (by omega)] at i3; exact i3), fun j x i1 i2 i3 => h5 j x i1 i2 (by rw [List.getElem?_append_left (by omega)] at i3; exact i3), fun hq x i => h6 hq x (by rw [List.getElem?_append_left (by omega)] at i; exact i), hruns_low hb h7⟩
theorem hwords_low {l r : List UInt8} {a b : Nat} (hab : a ≤ b) (hb : b ≤ l.length) : wordsL (l ++ r) a b = wordsL l a b :=
  runs_eq (by rw [List.length_append]; omega) (runs_of hab (by rw [List.length_append]; omega)) (hruns_low hb (runs_of hab hb))
theorem hruns_high {a b : List UInt8} {m : Nat} : ∀ {qs : List (Nat × Nat)} {p : Nat}, Runs b m p qs → Runs (a ++ b) (m + a.length) (p + a.length) (qs.map (shift2 a.length))
  | [], p, h => fun j x h1 h2 h3 => by
    rw [List.getElem?_append_right (by omega)] at h3
    exact h (j - a.length) x (by omega) (by omega) h3
  | (u, v) :: qs, p, ⟨h1, h2, h3, h4, h5, h6, h7⟩ =>
    ⟨Nat.add_le_add_right h1 _, Nat.add_lt_add_right h2 _, Nat.add_le_add_right h3 _, fun j x i1 i2 i3 => by
      rw [List.getElem?_append_right (by omega)] at i3
      exact h4 (j - a.length) x (by omega) (by omega) i3, fun j x i1 i2 i3 => by
      rw [List.getElem?_append_right (by omega)] at i3
      exact h5 (j - a.length) x (by omega) (by omega) i3, fun hq x i => by
      rw [List.getElem?_append_right (by omega), Nat.add_sub_cancel] at i
      exact h6 (by omega) x i, hruns_high h7⟩
theorem hwords_high {a b : List UInt8} {p q : Nat} (hpq : p ≤ q) (hq : q ≤ b.length) : wordsL (a ++ b) (p + a.length) (q + a.length) = (wordsL b p q).map (shift2 a.length) :=
  runs_eq (by rw [List.length_append]; omega) (runs_of (by omega) (by rw [List.length_append]; omega)) (hruns_high (runs_of hpq hq))
theorem hcut_low {l r : List UInt8} {a b : Nat} (hb : b ≤ l.length) : cutL (l ++ r) a b = cutL l a b := by
  unfold cutL
  rw [List.extract_eq_take_drop, List.extract_eq_take_drop]
  by_cases h : a ≤ b
  · rw [List.drop_append_of_le_length (by omega), List.take_append_of_le_length (by simp; omega)]
  · rw [show b - a = 0 from by omega, List.take_zero, List.take_zero]
theorem hcut_high (a b : List UInt8) (p q : Nat) : cutL (a ++ b) (p + a.length) (q + a.length) = cutL b p q := by
  unfold cutL
  rw [List.extract_eq_take_drop, List.extract_eq_take_drop, show q + a.length - (p + a.length) = q - p from by omega, Nat.add_comm p, List.drop_append, List.drop_eq_nil_of_le (by omega), List.nil_append, Nat.add_sub_cancel_left]
theorem trimL_low {l r : List UInt8} {a b : Nat} (hab : a ≤ b) (hb : b ≤ l.length) : trimL (l ++ r) a b = trimL l a b := by
  unfold trimL; rw [hwords_low hab hb]
theorem trimW_shift (n b : Nat) : ∀ ps : List (Nat × Nat), trimW (b + n) (ps.map (shift2 n)) = shift2 n (trimW b ps)
  | [] => rfl
  | p :: r => by
    have h : ((p :: r).map (shift2 n)).getLast (by simp) = shift2 n ((p :: r).getLast (by simp)) := by rw [List.getLast_map]
    show ((shift2 n p).1, (((p :: r).map (shift2 n)).getLast (by simp)).2) = _
    rw [h]
    rfl
theorem trimL_high {a b : List UInt8} {p q : Nat} (hpq : p ≤ q) (hq : q ≤ b.length) : trimL (a ++ b) (p + a.length) (q + a.length) = shift2 a.length (trimL b p q) := by
  unfold trimL; rw [hwords_high hpq hq, trimW_shift]
theorem seek_low {f : UInt8 → Bool} {l r : List UInt8} {a b : Nat} (hb : b ≤ l.length) : seekL f (l ++ r) a b = seekL f l a b := by
  unfold seekL
  have : ∀ n a, a + n ≤ l.length → seekFrom f (l ++ r) a n = seekFrom f l a n := by
    intro n
    induction n with
    | zero => intro a _; rfl
    | succ n ih =>
      intro a h
      unfold seekFrom
      rw [List.getElem?_append_left (by omega), ih (a + 1) (by omega)]
  by_cases h : a ≤ b
  · exact this _ _ (by omega)
  · rw [show b - a = 0 by omega]; rfl
theorem seek_high {f : UInt8 → Bool} (a b : List UInt8) (p q : Nat) : seekL f (a ++ b) (p + a.length) (q + a.length) = seekL f b p q + a.length := by
  unfold seekL
  rw [show q + a.length - (p + a.length) = q - p by omega]
  generalize q - p = n
  induction n generalizing p with
  | zero => rfl
  | succ n ih =>
    unfold seekFrom
    rw [List.getElem?_append_right (by omega), Nat.add_sub_cancel, show p + a.length + 1 = p + 1 + a.length by omega, ih (p + 1)]
    split <;> rfl
theorem extract_bs (l : List UInt8) (a b : Nat) : (bs l).extract a b = bs (cutL l a b) := bytes_ext (by rw [Go.Cur.extract_list]; rfl)
theorem textI_bs {l : List UInt8} {a b : Nat} (hab : a ≤ b) (hb : b ≤ l.length) : textI (bs l) (a : Int) (b : Int) = bs (cutL l a b) := by
  unfold textI
  rw [if_pos (by unfold inB; rw [bs_size]; exact decide_eq_true ⟨by omega, by omega, by omega⟩), Int.toNat_natCast, Int.toNat_natCast, extract_bs]
/-- The key of a part of a list of bytes. -/
def keyL (l : List UInt8) (a b : Nat) : ByteArray := bs (cutL l (trimL l a (seekL colB l a b)).1 (trimL l a (seekL colB l a b)).2)
theorem keyPart_bs (l : List UInt8) (a b : Nat) : keyPart (bs l) a b = keyL l a b := by
  unfold keyPart keyL
  rw [bs_list, extract_bs]
theorem seek_ge {f : UInt8 → Bool} {l : List UInt8} {a b : Nat} : a ≤ seekL f l a b := (seekFrom_le f l (b - a) a).1
theorem trim_bd {l : List UInt8} {a b : Nat} (hab : a ≤ b) (hb : b ≤ l.length) : a ≤ (trimL l a b).1 ∧ (trimL l a b).1 ≤ (trimL l a b).2 ∧ (trimL l a b).2 ≤ b := by
  have := is_trim hab hb
  exact ⟨this.1, this.2.1, this.2.2.1⟩
theorem keyL_low {l r : List UInt8} {a b : Nat} (hab : a ≤ b) (hb : b ≤ l.length) : keyL (l ++ r) a b = keyL l a b := by
  unfold keyL
  have h1 := seek_le (q := colB) (l := l) hab
  have h2 := seek_ge (f := colB) (l := l) (a := a) (b := b)
  rw [seek_low hb, trimL_low h2 (by omega)]
  have h3 := trim_bd (l := l) h2 (by omega)
  rw [hcut_low (by omega)]
theorem keyL_high {a b : List UInt8} {p q : Nat} (hpq : p ≤ q) (hq : q ≤ b.length) : keyL (a ++ b) (p + a.length) (q + a.length) = keyL b p q := by
  unfold keyL
  have h1 := seek_le (q := colB) (l := b) hpq
  have h2 := seek_ge (f := colB) (l := b) (a := p) (b := q)
  rw [seek_high, trimL_high h2 (by omega)]
  exact congrArg bs (hcut_high a b _ _)
/-- Where the value stands. -/
def valL (l : List UInt8) (a b : Nat) : Nat × Nat := if seekL colB l a b < b then trimL l (seekL colB l a b + 1) b else (b, b)
theorem keyE_bs (l : List UInt8) (a b : Nat) : keyE (bs l) a b = if isKey (keyL l a b) = true then (keyL l a b, valL l a b, true) else (⟨#[]⟩, (0, 0), false) := by
  unfold keyE valL
  rw [keyPart_bs, bs_list]
theorem val_bd {l : List UInt8} {a b : Nat} (hab : a ≤ b) (hb : b ≤ l.length) : a ≤ (valL l a b).1 ∧ (valL l a b).1 ≤ (valL l a b).2 ∧ (valL l a b).2 ≤ b := by
  unfold valL
  have h2 := seek_ge (f := colB) (l := l) (a := a) (b := b)
  split
  · rename_i h
    have := trim_bd (l := l) (a := seekL colB l a b + 1) (b := b) h hb
    omega
  · exact ⟨hab, Nat.le_refl _, Nat.le_refl _⟩
theorem valL_low {l r : List UInt8} {a b : Nat} (_hab : a ≤ b) (hb : b ≤ l.length) : valL (l ++ r) a b = valL l a b := by
  unfold valL
  rw [seek_low hb]
  split
  · rename_i h; exact trimL_low h hb
  · rfl
theorem valL_high {a b : List UInt8} {p q : Nat} (_hpq : p ≤ q) (hq : q ≤ b.length) : valL (a ++ b) (p + a.length) (q + a.length) = shift2 a.length (valL b p q) := by
  unfold valL
  rw [seek_high]
  by_cases h : seekL colB b p q < q
  · rw [if_pos h, if_pos (by omega), show seekL colB b p q + a.length + 1 = seekL colB b p q + 1 + a.length by omega, trimL_high h hq]
  · rw [if_neg h, if_neg (by omega)]; rfl
/-- What a row does, further on. -/
def Rs.shift (n : Nat) : Rs → Rs
  | .stop => .stop
  | .bad a c => .bad (a + n) c
  | .go p => .go p
theorem rowE_low {l r : List UInt8} {p : Pr} {a b c : Nat} (hab : a ≤ b) (hb : b ≤ l.length) : rowE (bs (l ++ r)) p (a, b, c) = rowE (bs l) p (a, b, c) := by
  have hv := val_bd (l := l) hab hb
  have e : keyE (bs (l ++ r)) a b = keyE (bs l) a b := by rw [keyE_bs, keyE_bs, keyL_low hab hb, valL_low hab hb]
  unfold rowE
  simp only [e]
  rw [keyE_bs]
  cases hk : isKey (keyL l a b) with
  | false => simp
  | true =>
    simp only [if_true]
    rw [textI_bs hv.2.1 (by rw [List.length_append]; omega), textI_bs hv.2.1 (by omega), hcut_low (by omega)]
theorem rowE_high {a b : List UInt8} {p : Pr} {x y z z' : Nat} (hxy : x ≤ y) (hy : y ≤ b.length) : rowE (bs (a ++ b)) p (x + a.length, y + a.length, z') = (rowE (bs b) p (x, y, z)).shift a.length := by
  have hv := val_bd (l := b) hxy hy
  have e : keyE (bs (a ++ b)) (x + a.length) (y + a.length) = if isKey (keyL b x y) = true then (keyL b x y, shift2 a.length (valL b x y), true) else (⟨#[]⟩, (0, 0), false) := by rw [keyE_bs, keyL_high hxy hy, valL_high hxy hy]
  unfold rowE
  simp only [e]
  rw [keyE_bs]
  cases hk : isKey (keyL b x y) with
  | false =>
    simp only [Bool.false_eq_true, if_false, if_true]
    split <;> rfl
  | true =>
    simp only [if_true]
    have e3 : textI (bs (a ++ b)) ((shift2 a.length (valL b x y)).1 : Nat) ((shift2 a.length (valL b x y)).2 : Nat) = textI (bs b) ((valL b x y).1 : Nat) ((valL b x y).2 : Nat) := by
      rw [textI_bs (by simp only [shift2]; omega) (by simp only [shift2, List.length_append]; omega), textI_bs hv.2.1 (by omega)]
      simp only [shift2]
      rw [hcut_high]
    rw [e3]
    repeat' split
    all_goals rfl
/-- Rows one after the other; none: they do not end the head. -/
def runR (s : ByteArray) : List (Nat × Nat × Nat) → Pr → (Nat × Int) ⊕ (Pr × Option Nat)
  | [], p => .inr (p, none)
  | r :: l, p => match rowE s p r with
    | .stop => .inr (p, some r.1)
    | .bad a c => .inl (a, c)
    | .go q => runR s l q
theorem rowsE14_run (s : ByteArray) : ∀ (l : List (Nat × Nat × Nat)) (p : Pr), rowsE14 s l p = match runR s l p with | .inl x => .inl x | .inr (q, none) => .inr (q, s.size) | .inr (q, some e) => .inr (q, e)
  | [], p => rfl
  | r :: l, p => by
    unfold rowsE14 runR
    cases rowE s p r with
    | stop => rfl
    | bad a c => rfl
    | go q => exact rowsE14_run s l q
/-- And then others. -/
def andX (x : (Nat × Int) ⊕ (Pr × Option Nat)) (f : Pr → (Nat × Int) ⊕ (Pr × Option Nat)) : (Nat × Int) ⊕ (Pr × Option Nat) := match x with
  | .inl y => .inl y
  | .inr (q, none) => f q
  | .inr (q, some e) => .inr (q, some e)
def shiftX (n : Nat) : (Nat × Int) ⊕ (Pr × Option Nat) → (Nat × Int) ⊕ (Pr × Option Nat)
  | .inl (a, c) => .inl (a + n, c)
  | .inr (q, e) => .inr (q, e.map (· + n))
theorem runR_append (s : ByteArray) : ∀ (l r : List (Nat × Nat × Nat)) (p : Pr), runR s (l ++ r) p = andX (runR s l p) (runR s r)
  | [], r, p => rfl
  | x :: l, r, p => by
    rw [List.cons_append]
    unfold runR
    cases rowE s p x with
    | stop => rfl
    | bad a c => rfl
    | go q => exact runR_append s l r q
theorem runR_low {l t : List UInt8} : ∀ {rs : List (Nat × Nat × Nat)} {p : Pr}, (∀ r ∈ rs, r.1 ≤ r.2.1 ∧ r.2.1 ≤ l.length) → runR (bs (l ++ t)) rs p = runR (bs l) rs p
  | [], p, _ => rfl
  | (a, b, c) :: rs, p, h => by
    have h0 := h (a, b, c) (by simp)
    unfold runR
    rw [rowE_low h0.1 h0.2]
    cases rowE (bs l) p (a, b, c) with
    | stop => rfl
    | bad a c => rfl
    | go q => exact runR_low fun r hr => h r (by simp [hr])
theorem runR_high {a b : List UInt8} : ∀ {rs : List (Nat × Nat × Nat)} {p : Pr}, (∀ r ∈ rs, r.1 ≤ r.2.1 ∧ r.2.1 ≤ b.length) → runR (bs (a ++ b)) (rs.map (shift3 a.length)) p = shiftX a.length (runR (bs b) rs p)
  | [], p, _ => rfl
  | (x, y, z) :: rs, p, h => by
    have h0 := h (x, y, z) (by simp)
    rw [List.map_cons]
    unfold runR
    have e := rowE_high (a := a) (b := b) (p := p) (z := z) (z' := z + a.length) h0.1 h0.2
    simp only [shift3]
    rw [e]
    cases rowE (bs b) p (x, y, z) with
    | stop => rfl
    | bad a c => rfl
    | go q => exact runR_high fun r hr => h r (by simp [hr])
theorem rows_bd {l : List UInt8} : ∀ r ∈ rowsOf l, r.1 ≤ r.2.1 ∧ r.2.1 ≤ l.length := fun r hr => by
  obtain ⟨j, hj⟩ := List.getElem?_of_mem (List.mem_filter.1 hr).1
  obtain ⟨x, y, z⟩ := r
  have := lines_get hj
  exact ⟨this.1, this.2.1⟩
theorem rowsOf_join (a b : List UInt8) : rowsOf (a ++ 10 :: b) = rowsOf (a ++ [10]) ++ (rowsOf b).map (shift3 (a.length + 1)) := by
  have hj := (lines_join a b).1
  have e0 : a ++ 10 :: b = (a ++ [10]) ++ b := by simp
  have hl : (a ++ [10]).length = a.length + 1 := by simp
  have k1 : ∀ p ∈ lines (a ++ [10]), p.1 ≤ p.2.1 ∧ p.2.1 ≤ (a ++ [10]).length := fun p hp => by
    obtain ⟨j, hj⟩ := List.getElem?_of_mem hp
    obtain ⟨x, y, z⟩ := p
    have := lines_get hj
    exact ⟨this.1, this.2.1⟩
  unfold rowsOf
  rw [hj, List.filter_append]
  congr 1
  · exact List.filter_congr fun p hp => by
      unfold bare
      rw [e0, hcut_low (k1 p hp).2]
  · rw [List.filter_map]
    congr 1
    exact List.filter_congr fun p hp => by
      unfold bare
      simp only [Function.comp, shift3]
      rw [e0, ← hl, hcut_high]
/-- All rows of a text. -/
def runA (l : List UInt8) (p : Pr) : (Nat × Int) ⊕ (Pr × Option Nat) := runR (bs l) (rowsOf l) p
theorem runA_join (a b : List UInt8) (p : Pr) : runA (a ++ 10 :: b) p = andX (runA (a ++ [10]) p) (fun q => shiftX (a.length + 1) (runA b q)) := by
  have e0 : a ++ 10 :: b = (a ++ [10]) ++ b := by simp
  have hl : (a ++ [10]).length = a.length + 1 := by simp
  unfold runA
  rw [rowsOf_join, runR_append]
  have h1 : runR (bs (a ++ 10 :: b)) (rowsOf (a ++ [10])) p = runR (bs (a ++ [10])) (rowsOf (a ++ [10])) p := by
    rw [e0]; exact runR_low rows_bd
  rw [h1]
  congr 1
  funext q
  rw [e0, ← hl]
  exact runR_high rows_bd
theorem parseE_run (s : ByteArray) : parseE s = match runA s.data.toList pr0 with
    | .inl (a, c) => (hd0, 0, a, c)
    | .inr (p, none) => if lackE p = true then (hd0, 0, s.size, 142) else (p.h, s.size, 0, 0)
    | .inr (p, some e) => if lackE p = true then (hd0, 0, e, 142) else (p.h, e, 0, 0) := by
  unfold parseE
  rw [rowsE14_run]
  unfold runA
  rw [bs_eta]
  cases h : runR s (rowsOf s.data.toList) pr0 with
  | inl x => rfl
  | inr x =>
    obtain ⟨q, e⟩ := x
    all_goals (cases e <;> rfl)
end Go.Hdr
/- The document's Read. Conditions: a text of at most 1000000 bytes. -/
namespace Go.Fx
/-- Where the first point stands, or the text's end, from place k on. -/
def pt (l : List UInt8) (k : Nat) : Nat := k + ((l.drop k).takeWhile (· != 46)).length
theorem pt_end (l : List UInt8) : pt l l.length = l.length := by simp [pt]
theorem pt_hit {l : List UInt8} {k : Nat} (h : l[k]? = some 46) : pt l k = k := by
  obtain ⟨hk, he⟩ := List.getElem?_eq_some_iff.1 h
  unfold pt
  rw [List.drop_eq_getElem_cons hk, he]
  simp
theorem pt_miss {l : List UInt8} {k : Nat} {c : UInt8} (h : l[k]? = some c) (hc : c ≠ 46) : pt l k = pt l (k + 1) := by
  obtain ⟨hk, he⟩ := List.getElem?_eq_some_iff.1 h
  unfold pt
  rw [List.drop_eq_getElem_cons hk, he, List.takeWhile_cons]
  simp [hc]
  omega
theorem pt_le {l : List UInt8} {k : Nat} (h : k ≤ l.length) : pt l k ≤ l.length := by
  unfold pt
  have := (List.takeWhile_prefix (· != 46) (l := l.drop k)).length_le
  rw [List.length_drop] at this
  omega
/-- A number that may be too great. -/
def chkL (x : Int × Nat) : Int × Nat × Int := if fitB x.1 = true then (x.1, x.2, 0) else (0, 0, 2)
/-- The document's Read of a text without its sign. -/
def readT (g : Int) (l : List UInt8) : Int × Nat × Int :=
  if (digR (l.take (pt l 0)) 12).2 = true then
    if pt l 0 < l.length then
      if (digR (l.drop (pt l 0 + 1)) 6).2 = true then
        chkL (least (l.length - pt l 0 - 1) (g * ((digR (l.take (pt l 0)) 12).1 * p10 ((l.length : Int) - (pt l 0 : Nat) - 1) + (digR (l.drop (pt l 0 + 1)) 6).1)))
      else (0, 0, 20)
    else chkL (least 0 (g * (digR (l.take (pt l 0)) 12).1))
  else (0, 0, 20)
end Go.Fx
namespace Go.Proofs
open Go.RowKit Go.Fx
attribute [local go_sem] Oper.semAt_some

theorem ret_read {a k : Int} {b : Nat} {x : Int × Nat × Int} (h : x = (a, b, k)) : Ending.returned (.tuple #[.agg #[.int .i64 a, .int .i64 (b : Int)], .int .i64 k]) = .returned (.tuple #[.agg #[.int .i64 x.1, .int .i64 (x.2.1 : Int)], .int .i64 x.2.2]) := by rw [h]
/-- What the document's Read and Int take for the text's sign, and its rest. -/
def Head (s T : ByteArray) (g : Int) : Prop := (∃ h0 : 0 < s.size, s[0] = 45 ∧ T = s.extract 1 s.size ∧ g = -1) ∨ (∃ h0 : 0 < s.size, s[0] ≠ 45 ∧ T = s ∧ g = 1) ∨ (s = ⟨#[]⟩ ∧ T = s ∧ g = 1)

theorem cells_past {w1 : World} {n : Nat} (hz : n < w1.heap.size) {u v : Value} (c0 : w1.cell? ⟨n, 0, none⟩ = some u) (c1 : w1.cell? ⟨n, 1, none⟩ = some v) (x y : Value) (o : Obj) :
    (((w1.setCell ⟨n, 0, none⟩ x).setCell ⟨n, 1, none⟩ y).alloc o).cell? ⟨n, 0, none⟩ = some x ∧ (((w1.setCell ⟨n, 0, none⟩ x).setCell ⟨n, 1, none⟩ y).alloc o).cell? ⟨n, 1, none⟩ = some y := by
  have hz' : n < ((w1.setCell ⟨n, 0, none⟩ x).setCell ⟨n, 1, none⟩ y).heap.size := by simp [World.setCell]; omega
  constructor
  · rw [World.cell?_of_block (w := (w1.setCell ⟨n, 0, none⟩ x).setCell ⟨n, 1, none⟩ y) (a := ⟨n, 0, none⟩) (Below.heap_alloc _ _ _ hz')]; simp [go_sem, c0]
  · rw [World.cell?_of_block (w := (w1.setCell ⟨n, 0, none⟩ x).setCell ⟨n, 1, none⟩ y) (a := ⟨n, 1, none⟩) (Below.heap_alloc _ _ _ hz')]; simp [go_sem, c1]









end Go.Proofs
/- The document's Read, at every text of at most 1000000 bytes. -/
namespace Go.Fx
/-- The document's Read. -/
def readR (l : List UInt8) : Int × Nat × Int := readT (sgn l) (tailIf 45 l)
theorem digR_len {l : List UInt8} {k : Nat} {n : Int} (h : digR l k = (n, true)) : l.length ≤ k := by
  unfold digR at h
  split at h
  · rename_i hd; exact hd.2.1
  · cases h
theorem digR_val {l : List UInt8} {k : Nat} {n : Int} {b : Bool} (h : digR l k = (n, b)) : 0 ≤ n ∧ n < ((10 ^ k : Nat) : Int) := by
  have := digR_bd l (k := k)
  rw [h] at this
  exact this
end Go.Fx
namespace Go.Proofs
open Go.RowKit Go.Fx

end Go.Proofs
/- What fixed.Int and fixed.Read tell is what the document's tell. No program. -/
namespace Go.Fx
open Go.Proofs
theorem digs_full {l : List UInt8} (h : l.all dg = true) : digs l = l := by
  unfold digs
  induction l with
  | nil => rfl
  | cons c r ih =>
    simp only [List.all_cons, Bool.and_eq_true] at h
    rw [List.takeWhile_cons, if_pos h.1, ih h.2]
theorem digs_part {l : List UInt8} (h : ¬ l.all dg = true) : l.drop (digs l).length ≠ [] := by
  intro e
  apply h
  have h1 : l.length ≤ (digs l).length := by simpa using e
  have h2 : digs l = l := (List.takeWhile_prefix dg (l := l)).eq_of_length (Nat.le_antisymm (List.takeWhile_prefix dg (l := l)).length_le h1)
  rw [← h2]
  exact List.all_eq_true.2 digs_all
theorem p10_add (a b : Nat) : p10 ((a + b : Nat) : Int) = p10 (a : Int) * p10 (b : Int) := by
  rw [p10_nat, p10_nat, p10_nat, Nat.pow_add]
  exact Int.natCast_mul _ _
theorem p10_one : p10 (1 : Nat) = 10 := by rw [p10_nat]; rfl
theorem valF_split (m : Int) (l : List UInt8) : valF m l = m * p10 (l.length : Int) + valF 0 l := by
  induction l generalizing m with
  | nil => simp [valF, p10]
  | cons c r ih =>
    have e1 : valF m (c :: r) = valF (10 * m + ((c.toNat : Int) - 48)) r := rfl
    have e2 : valF 0 (c :: r) = valF (10 * 0 + ((c.toNat : Int) - 48)) r := rfl
    rw [e1, e2, ih, ih (10 * 0 + ((c.toNat : Int) - 48))]
    have e3 : p10 ((c :: r).length : Int) = p10 (r.length : Int) * 10 := by
      rw [List.length_cons, p10_add, p10_one]
    rw [e3, Int.add_mul, Int.add_mul]
    have : m * (p10 (r.length : Int) * 10) = 10 * m * p10 (r.length : Int) := by rw [Int.mul_comm (p10 _) 10, ← Int.mul_assoc, Int.mul_comm m 10]
    omega
theorem takeN_rest {m : Int} {s : Nat} {r : List UInt8} (h : r ≠ []) : takeN (some (m, s, r)) = (0, 0, 20) := by
  simp only [takeN]; rw [if_neg h]
theorem takeN_end (m : Int) (s : Nat) : takeN (some (m, s, [])) = chkL (least s m) := by
  simp only [takeN, chkL, if_true]
theorem fit_sgn {g v : Int} (hg : g = 1 ∨ g = -1) (h : 0 ≤ v) : fitB (g * v) = true ↔ ¬ 100000000 < v := by
  rcases hg with e | e <;> rw [e] <;> simp [fitB] <;> omega
theorem chkL_yes {x : Int} {y : Nat} (h : fitB x = true) : chkL (x, y) = (x, y, 0) := by unfold chkL; exact if_pos h
theorem chkL_no {x : Int} {y : Nat} (h : ¬ fitB x = true) : chkL (x, y) = (0, 0, 2) := by unfold chkL; exact if_neg h
theorem int_same (l : List UInt8) : (intN l).1 = (intR l).1 ∧ (intN l).2.2 = (intR l).2 := by
  unfold intN intR numI
  generalize ht : tailIf 45 l = t
  generalize hg : sgn l = g
  have hg' : g = 1 ∨ g = -1 := hg ▸ sgn_cases l
  by_cases ha : t.all dg = true
  · rw [digs_full ha]
    by_cases hl : 1 ≤ t.length ∧ t.length ≤ 12
    · have hv := valF_bd (a := 0) 0 (by omega) (by decide) t (List.all_eq_true.1 ha)
      have hR : digR t 12 = (valF 0 t, true) := by unfold digR; rw [if_pos ⟨hl.1, hl.2, ha⟩]
      rw [if_pos hl, hR, List.drop_length, takeN_end]
      have hL : least 0 (g * valF 0 t) = (g * valF 0 t, 0) := rfl
      rw [hL]
      simp only [intT, if_true]
      by_cases hb : 100000000 < valF 0 t
      · rw [chkL_no (fun h => (fit_sgn hg' hv.1).1 h hb), if_pos hb]; exact ⟨rfl, rfl⟩
      · rw [chkL_yes ((fit_sgn hg' hv.1).2 hb), if_neg hb]; exact ⟨rfl, rfl⟩
    · have hR : digR t 12 = (0, false) := by unfold digR; rw [if_neg (fun h => hl ⟨h.1, h.2.1⟩)]
      rw [if_neg hl, hR]
      exact ⟨rfl, rfl⟩
  · have hR : digR t 12 = (0, false) := by unfold digR; rw [if_neg (fun h => ha h.2.2)]
    rw [hR]
    split
    · rw [takeN_rest (digs_part ha)]; exact ⟨rfl, rfl⟩
    · exact ⟨rfl, rfl⟩
theorem pt_take (l : List UInt8) : l.take (pt l 0) = l.takeWhile (· != 46) := by
  unfold pt
  simp only [List.drop_zero, Nat.zero_add]
  exact (List.prefix_iff_eq_take.1 (List.takeWhile_prefix _)).symm
theorem pt_cons (c : UInt8) (l : List UInt8) : pt (c :: l) 0 = if c = 46 then 0 else pt l 0 + 1 := by
  unfold pt
  simp only [List.drop_zero, List.takeWhile_cons, Nat.zero_add]
  by_cases h : c = 46 <;> simp [h]
theorem pt_at {l : List UInt8} (h : pt l 0 < l.length) : ∃ r, l.drop (pt l 0) = 46 :: r := by
  induction l with
  | nil => simp at h
  | cons c l ih =>
    rw [pt_cons] at h ⊢
    by_cases hc : c = 46
    · rw [if_pos hc]; exact ⟨l, by rw [hc]; rfl⟩
    · rw [if_neg hc] at h ⊢
      simp only [List.length_cons, Nat.add_lt_add_iff_right] at h
      exact ih h
theorem read_same (l : List UInt8) : readN l = readR l := by
  unfold readN readR numR readT
  generalize ht : tailIf 45 l = t
  generalize hg : sgn l = g
  obtain ⟨p, hp⟩ : ∃ p, p = pt t 0 := ⟨_, rfl⟩
  have hpl : p ≤ t.length := by rw [hp]; exact pt_le (Nat.zero_le _)
  rw [← hp]
  by_cases ha : (t.take p).all dg = true
  · -- the digits ahead are just those ahead of the point
    have hD : digs t = t.take p := by
      refine takeWhile_stop (List.all_eq_true.1 ha) ?_
      by_cases hlt : p < t.length
      · obtain ⟨r, hr⟩ := pt_at (hp ▸ hlt)
        rw [← hp] at hr
        refine .inr ⟨46, ?_, rfl⟩
        have := congrArg List.head? hr
        simpa using this
      · exact .inl (by omega)
    have hlen : (t.take p).length = p := by rw [List.length_take]; exact Nat.min_eq_left hpl
    rw [hD, hlen]
    by_cases hl : 1 ≤ p ∧ p ≤ 12
    · have hR : digR (t.take p) 12 = (valF 0 (t.take p), true) := by unfold digR; rw [hlen, if_pos ⟨hl.1, hl.2, ha⟩]
      rw [if_pos hl, hR]
      simp only [if_true]
      unfold numT
      by_cases hlt : p < t.length
      · obtain ⟨r, hr⟩ := pt_at (hp ▸ hlt)
        rw [← hp] at hr
        have hr1 : t.drop (p + 1) = r := by
          have := congrArg List.tail hr
          simpa using this
        have hrl : t.length - p - 1 = r.length := by rw [← hr1, List.length_drop]; omega
        have hri : (t.length : Int) - (p : Int) - 1 = (r.length : Int) := by omega
        rw [hr, hr1, if_pos (show headB 46 (46 :: r) = true from rfl), if_pos hlt, hrl, hri]
        rw [show ((46 : UInt8) :: r).tail = r from rfl]
        by_cases hb : r.all dg = true
        · rw [digs_full hb]
          by_cases hq : 1 ≤ r.length ∧ r.length ≤ 6
          · have hR2 : digR r 6 = (valF 0 r, true) := by unfold digR; rw [if_pos ⟨hq.1, hq.2, hb⟩]
            rw [if_pos hq, hR2, List.drop_length, takeN_end, valF_split (valF 0 (t.take p)) r]
            simp only [if_true]
          · have hR2 : digR r 6 = (0, false) := by unfold digR; rw [if_neg (fun h => hq ⟨h.1, h.2.1⟩)]
            rw [if_neg hq, hR2]
            rfl
        · have hR2 : digR r 6 = (0, false) := by unfold digR; rw [if_neg (fun h => hb h.2.2)]
          rw [hR2]
          simp only [Bool.false_eq_true, if_false]
          split
          · exact takeN_rest (digs_part hb)
          · rfl
      · have hpe : p = t.length := by omega
        rw [if_neg hlt, hpe, List.drop_length, if_neg (show ¬ headB 46 [] = true from by simp [headB]), takeN_end]
    · have hR : digR (t.take p) 12 = (0, false) := by unfold digR; rw [hlen, if_neg (fun h => hl ⟨h.1, h.2.1⟩)]
      rw [if_neg hl, hR]
      rfl
  · have hR : digR (t.take p) 12 = (0, false) := by unfold digR; rw [if_neg (fun h => ha h.2.2)]
    rw [hR]
    simp only [Bool.false_eq_true, if_false]
    split
    · -- what is left begins with no point, and is not empty
      have hlt : (digs t).length < p := by
        apply Nat.lt_of_not_le
        intro hle
        apply ha
        have h1 : t.take p = (digs t).take p := by
          have := List.prefix_iff_eq_take.1 (List.takeWhile_prefix dg (l := t))
          have e : digs t = t.take (digs t).length := this
          conv => rhs; rw [e]
          rw [List.take_take, Nat.min_eq_left hle]
        rw [h1]
        exact List.all_eq_true.2 (fun c hc => digs_all c (List.mem_of_mem_take hc))
      have hne : t.drop (digs t).length ≠ [] := by
        intro e
        have := congrArg List.length e
        simp at this; omega
      have hhead : headB 46 (t.drop (digs t).length) = false := by
        have hk : (digs t).length < t.length := by omega
        rw [List.drop_eq_getElem_cons hk]
        have hx : t[(digs t).length] ∈ t.takeWhile (· != 46) := by
          rw [← pt_take, ← hp]
          rw [List.mem_take_iff_getElem]
          exact ⟨_, by omega, rfl⟩
        have := List.all_takeWhile (p := (· != 46)) (l := t)
        rw [List.all_eq_true] at this
        have := this _ hx
        simp only [headB]
        simpa using this
      unfold numT
      rw [if_neg (by rw [hhead]; simp)]
      exact takeN_rest hne
    · rfl
#print axioms int_same
#print axioms read_same
end Go.Fx
/- The document's To. Conditions: a number of which something is promised. -/
namespace Go.Fx
/-- The document's To: the number and the error. -/
def toR (m : Int) (s : Nat) (k : Int) : Int × Int :=
  if k < 0 ∨ 6 < k then (0, 1) else
  if k < ((least s m).2 : Int) then (0, 21) else
  if fitB ((least s m).1 * p10 (k - (least s m).2)) = true then ((least s m).1 * p10 (k - (least s m).2), 0) else (0, 2)
theorem least_bd {B : Int} (s : Nat) (m : Int) (h1 : -B ≤ m) (h2 : m ≤ B) : -B ≤ (least s m).1 ∧ (least s m).1 ≤ B := by
  induction s generalizing m with
  | zero => exact ⟨h1, h2⟩
  | succ s ih =>
    unfold least
    split
    · have := tdiv_bd (t := 10) h1 h2 (by omega)
      exact ih _ this.1 this.2
    · exact ⟨h1, h2⟩
end Go.Fx
namespace Go.Proofs
open Go.RowKit Go.Fx
attribute [local go_sem] Oper.semAt_some




end Go.Proofs
/- Plain facts on numbers in scales: the least form, other scales, how two compare. No program. -/
namespace Go.Fx
open Go.Proofs
/-- 10 to the n. -/
def P (n : Nat) : Int := ((10 ^ n : Nat) : Int)
theorem P_add (a b : Nat) : P (a + b) = P a * P b := by unfold P; rw [Nat.pow_add]; exact Int.natCast_mul _ _
theorem P_pos (n : Nat) : 0 < P n := by unfold P; have : 0 < 10 ^ n := Nat.pow_pos (by omega); omega
theorem P_succ (n : Nat) : P (n + 1) = P n * 10 := P_add n 1
theorem p10_sub {x y : Int} {n : Nat} (h : x - y = (n : Int)) : p10 (x - y) = P n := by rw [h, p10_nat]; rfl
/-- What least does. -/
theorem least_spec (s : Nat) (m : Int) : ∃ d, s = (least s m).2 + d ∧ m = (least s m).1 * P d ∧ ((least s m).2 = 0 ∨ ¬ (10 : Int) ∣ (least s m).1) := by
  induction s generalizing m with
  | zero => exact ⟨0, rfl, by simp [least, P], .inl rfl⟩
  | succ s ih =>
    by_cases h : m.tmod 10 = 0
    · have hd : (10 : Int) ∣ m := Int.dvd_of_tmod_eq_zero h
      rw [least_go s m h]
      obtain ⟨d, h1, h2, h3⟩ := ih (m.tdiv 10)
      refine ⟨d + 1, by omega, ?_, h3⟩
      rw [P_succ, ← Int.mul_assoc, ← h2]
      exact (Int.tdiv_mul_cancel hd).symm
    · rw [least_stop (s + 1) m h]
      exact ⟨0, rfl, by simp [P], .inr (fun hd => h (Int.tmod_eq_zero_of_dvd hd))⟩
theorem cmp_eq {m s k t : Int} (h : m * p10 (6 - s) = k * p10 (6 - t)) : cmpN m s k t = 0 := by
  unfold cmpN Lib.compareInt
  rw [h, if_neg (by omega), if_neg (by omega)]
theorem to_same (m : Int) (s : Nat) (k : Int) : toN m s k = toR m s k := by
  unfold toN toR
  by_cases hk : k < 0 ∨ 6 < k
  · rw [if_pos hk, if_pos hk]
  · rw [if_neg hk, if_neg hk]
    obtain ⟨j, rfl⟩ : ∃ j : Nat, k = (j : Int) := ⟨k.toNat, by omega⟩
    obtain ⟨d, h1, h2, h3⟩ := least_spec s m
    generalize hl : least s m = l at h1 h2 h3 ⊢
    obtain ⟨a, b⟩ := l
    simp only at h1 h2 h3 ⊢
    by_cases hs : (s : Int) ≤ (j : Int)
    · rw [if_pos hs, if_neg (show ¬ (j : Int) < (b : Int) from by omega)]
      have e1 : m * p10 ((j : Int) - (s : Int)) = a * p10 ((j : Int) - (b : Int)) := by
        rw [p10_sub (n := j - s) (by omega), p10_sub (n := d + (j - s)) (by omega), P_add, h2, Int.mul_assoc]
      rw [e1]
    · rw [if_neg hs]
      by_cases hb : (j : Int) < (b : Int)
      · rw [if_pos hb]
        have hnd : ¬ (10 : Int) ∣ a := h3.resolve_left (by omega)
        rw [if_neg]
        intro hz
        apply hnd
        have hd : p10 ((s : Int) - (j : Int)) ∣ m := Int.dvd_of_tmod_eq_zero hz
        obtain ⟨e, he⟩ : ∃ e, b - j = e + 1 := ⟨b - j - 1, by omega⟩
        rw [p10_sub (n := d + (e + 1)) (by omega), P_add, h2, P_succ, Int.mul_comm (P d)] at hd
        have h4 : P e * 10 ∣ a := Int.dvd_of_mul_dvd_mul_right (by have := P_pos d; omega) hd
        exact Int.dvd_trans (Int.dvd_mul_left (P e) 10) h4
      · rw [if_neg hb]
        have e1 : m = a * p10 ((j : Int) - (b : Int)) * p10 ((s : Int) - (j : Int)) := by
          rw [p10_sub (n := j - b) (by omega), p10_sub (n := s - j) (by omega), h2, Int.mul_assoc, ← P_add]
          congr 2; omega
        have hp : p10 ((s : Int) - (j : Int)) ≠ 0 := by have := p10_pos ((s : Int) - (j : Int)); omega
        have h5 : m.tmod (p10 ((s : Int) - (j : Int))) = 0 := by rw [e1]; exact Int.mul_tmod_left _ _
        have h6 : m.tdiv (p10 ((s : Int) - (j : Int))) = a * p10 ((j : Int) - (b : Int)) := by
          conv => lhs; rw [e1]
          exact Int.mul_tdiv_cancel _ hp
        rw [if_pos h5, h6]
/-- A number in another scale is as much as it was. -/
theorem to_much (m : Int) (s : Nat) (hs : s ≤ 6) (k : Int) (h : (toN m s k).2 = 0) : mayB (toN m s k).1 k = true ∧ cmpN (toN m s k).1 k m s = 0 := by
  unfold toN at h ⊢
  by_cases hk : k < 0 ∨ 6 < k
  · rw [if_pos hk] at h; simp at h
  · rw [if_neg hk] at h ⊢
    obtain ⟨j, rfl⟩ : ∃ j : Nat, k = (j : Int) := ⟨k.toNat, by omega⟩
    by_cases hsj : (s : Int) ≤ (j : Int)
    · rw [if_pos hsj] at h ⊢
      by_cases hf : fitB (m * p10 ((j : Int) - (s : Int))) = true
      · rw [if_pos hf]
        have := fitB_of hf
        refine ⟨mayB_mk (by omega) (by omega) (by simp only; omega) (by simp only; omega), cmp_eq ?_⟩
        simp only
        rw [p10_sub (n := j - s) (by omega), p10_sub (n := 6 - j) (by omega), p10_sub (n := 6 - s) (by omega), Int.mul_assoc, ← P_add]
        congr 2; omega
      · rw [if_neg hf] at h; simp at h
    · rw [if_neg hsj] at h ⊢
      by_cases hz : m.tmod (p10 ((s : Int) - (j : Int))) = 0
      · rw [if_pos hz] at h ⊢
        by_cases hf : fitB (m.tdiv (p10 ((s : Int) - (j : Int)))) = true
        · rw [if_pos hf]
          have := fitB_of hf
          refine ⟨mayB_mk (by omega) (by omega) (by simp only; omega) (by simp only; omega), cmp_eq ?_⟩
          simp only
          have e1 : m = m.tdiv (p10 ((s : Int) - (j : Int))) * p10 ((s : Int) - (j : Int)) := (Int.tdiv_mul_cancel (Int.dvd_of_tmod_eq_zero hz)).symm
          generalize m.tdiv (p10 ((s : Int) - (j : Int))) = x at e1 ⊢
          rw [e1, Int.mul_assoc, p10_sub (n := 6 - j) (by omega), p10_sub (n := s - j) (by omega), p10_sub (n := 6 - s) (by omega), ← P_add]
          congr 2; omega
        · rw [if_neg hf] at h; simp at h
      · rw [if_neg hz] at h; simp at h
#print axioms to_same
#print axioms to_much
end Go.Fx
/- Plain facts on the texts of numbers: what is printed is read back. No program. -/
namespace Go.Fx
open Go.Proofs
theorem dec_small {u : Nat} (h : u < 10) : Lib.decDigits u = [UInt8.ofNat (48 + u)] := Lib.decDigits_one h
theorem dec_big {u : Nat} (h : ¬ u < 10) : Lib.decDigits u = Lib.decDigits (u / 10) ++ [UInt8.ofNat (48 + u % 10)] := by
  rw [Lib.decDigits, dif_neg h]
theorem byte_of {d : Nat} (h : d < 10) : (UInt8.ofNat (48 + d)).toNat = 48 + d := by
  rw [UInt8.toNat_ofNat']; omega
theorem dg_byte {d : Nat} (h : d < 10) : dg (UInt8.ofNat (48 + d)) = true := by
  unfold dg; rw [byte_of h]; exact digB_yes (by omega) (by omega)
theorem dec_all (u : Nat) : (Lib.decDigits u).all dg = true := by
  induction u using Nat.strongRecOn with
  | ind u ih =>
    by_cases h : u < 10
    · rw [dec_small h, List.all_cons, dg_byte h]; rfl
    · rw [dec_big h, List.all_append, ih (u / 10) (by omega), List.all_cons, dg_byte (show u % 10 < 10 by omega)]
      rfl
theorem dec_val (u : Nat) : valF 0 (Lib.decDigits u) = (u : Int) := by
  induction u using Nat.strongRecOn with
  | ind u ih =>
    by_cases h : u < 10
    · rw [dec_small h]; simp only [valF, List.foldl_cons, List.foldl_nil]; rw [byte_of h]; omega
    · rw [dec_big h, valF_snoc, ih (u / 10) (by omega), byte_of (show u % 10 < 10 by omega)]; omega
theorem dec_short {u k : Nat} (hk : 1 ≤ k) (h : u < 10 ^ k) : (Lib.decDigits u).length ≤ k := by
  induction k generalizing u with
  | zero => omega
  | succ k ih =>
    by_cases hu : u < 10
    · rw [dec_small hu]; simp
    · rw [dec_big hu]
      have hk1 : 1 ≤ k := by
        rcases Nat.eq_zero_or_pos k with rfl | h'
        · simp at h; omega
        · exact h'
      rw [Nat.pow_succ] at h
      have := ih hk1 (u := u / 10) (by omega)
      simp; omega
theorem dec_ne (u : Nat) : 1 ≤ (Lib.decDigits u).length := by
  by_cases h : u < 10
  · rw [dec_small h]; simp
  · rw [dec_big h]; simp
theorem dec_head (u : Nat) (r : List UInt8) : headB 45 (Lib.decDigits u ++ r) = false := by
  have h1 := dec_ne u
  have h2 := dec_all u
  cases h : Lib.decDigits u with
  | nil => rw [h] at h1; simp at h1
  | cons c x =>
    rw [h] at h2
    simp only [List.all_cons, Bool.and_eq_true] at h2
    simp only [List.cons_append, headB]
    have := dg_bd h2.1
    rw [beq_eq_false_iff_ne]
    intro e; subst e
    simp at this
/-- The places behind the point. -/
def plac (a s : Nat) : List UInt8 := (Lib.decDigits (10 ^ s + a % 10 ^ s)).drop 1
theorem plac_spec (a s : Nat) : (plac a s).length = s ∧ (plac a s).all dg = true ∧ valF 0 (plac a s) = ((a % 10 ^ s : Nat) : Int) := by
  unfold plac
  have hT : 0 < 10 ^ s := Nat.pow_pos (by omega)
  have hr : a % 10 ^ s < 10 ^ s := Nat.mod_lt _ hT
  generalize a % 10 ^ s = r at hr ⊢
  have hl : (Lib.decDigits (10 ^ s + r)).length = s + 1 := by
    rw [Lib.decDigits_length]
    exact Lib.nDigits_unique s _ (by omega) (by rw [Nat.pow_succ]; omega)
  have ha := dec_all (10 ^ s + r)
  have hv := dec_val (10 ^ s + r)
  generalize Lib.decDigits (10 ^ s + r) = X at hl ha hv ⊢
  cases X with
  | nil => simp at hl
  | cons c E =>
    simp only [List.length_cons, Nat.add_right_cancel_iff] at hl
    simp only [List.all_cons, Bool.and_eq_true] at ha
    simp only [List.drop_succ_cons, List.drop_zero]
    refine ⟨hl, ha.2, ?_⟩
    have e1 : valF 0 (c :: E) = valF (10 * 0 + ((c.toNat : Int) - 48)) E := rfl
    rw [e1, valF_split, hl, p10_nat] at hv
    have hb := valF_bd (a := 0) 0 (by omega) (by decide) E (List.all_eq_true.1 ha.2)
    rw [hl, Nat.zero_add] at hb
    have hc := dg_bd ha.1
    generalize valF 0 E = v at hv hb ⊢
    generalize 10 ^ s = T at *
    obtain ⟨q, hq⟩ : ∃ q : Int, q = 10 * 0 + ((c.toNat : Int) - 48) := ⟨_, rfl⟩
    rw [← hq] at hv
    have hq0 : 0 ≤ q := by omega
    have h3 : q * (T : Int) + v = (T : Int) + (r : Int) := by rw [hv]; omega
    have hq1 : q = 1 := by
      rcases Int.lt_trichotomy q 1 with h | h | h
      · have : q = 0 := by omega
        subst this
        omega
      · exact h
      · have : (2 : Int) * (T : Int) ≤ q * (T : Int) := Int.mul_le_mul_of_nonneg_right (by omega) (by omega)
        omega
    subst hq1
    omega
theorem digs_app {D r : List UInt8} (hD : D.all dg = true) (hr : r = [] ∨ ∃ x, r = 46 :: x) : digs (D ++ r) = D := by
  unfold digs
  induction D with
  | nil =>
    rcases hr with rfl | ⟨x, rfl⟩
    · rfl
    · simp [show dg 46 = false from rfl]
  | cons c D ih =>
    simp only [List.all_cons, Bool.and_eq_true] at hD
    simp only [List.cons_append, List.takeWhile_cons, hD.1, if_true, ih hD.2]
theorem sign_text (m : Int) (D r : List UInt8) (hD : headB 45 (D ++ r) = false) :
    sgn ((if m < 0 then [45] else []) ++ (D ++ r)) = (if m < 0 then -1 else 1) ∧ tailIf 45 ((if m < 0 then [45] else []) ++ (D ++ r)) = D ++ r := by
  by_cases h : m < 0
  · simp [h, sgn, tailIf, headB]
  · rw [if_neg h, if_neg h, List.nil_append]
    unfold sgn tailIf
    rw [hD]
    exact ⟨rfl, rfl⟩
theorem sgn_abs (m : Int) : (if m < 0 then (-1 : Int) else 1) * (m.natAbs : Int) = m := by split <;> omega
/-- What a text of digits, and perhaps places, tells. -/
theorem numR_text (m : Int) (D E : List UInt8) (hD : D.all dg = true) (h1 : 1 ≤ D.length) (h12 : D.length ≤ 12) (hE : E.all dg = true) (he1 : 1 ≤ E.length) (he6 : E.length ≤ 6) (hh : headB 45 (D ++ 46 :: E) = false) :
    numR ((if m < 0 then [45] else []) ++ (D ++ 46 :: E)) = some ((if m < 0 then -1 else 1) * (valF 0 D * p10 (E.length : Int) + valF 0 E), E.length, []) := by
  obtain ⟨s1, s2⟩ := sign_text m D (46 :: E) hh
  unfold numR
  rw [s1, s2, digs_app hD (.inr ⟨E, rfl⟩), if_pos ⟨h1, h12⟩, List.drop_left]
  unfold numT
  rw [if_pos (show headB 46 (46 :: E) = true from rfl), show ((46 : UInt8) :: E).tail = E from rfl, digs_full hE, if_pos ⟨he1, he6⟩, List.drop_length, valF_split (valF 0 D) E]
theorem numR_whole (m : Int) (D : List UInt8) (hD : D.all dg = true) (h1 : 1 ≤ D.length) (h12 : D.length ≤ 12) (hh : headB 45 D = false) :
    numR ((if m < 0 then [45] else []) ++ D) = some ((if m < 0 then -1 else 1) * valF 0 D, 0, []) ∧ numI ((if m < 0 then [45] else []) ++ D) = some ((if m < 0 then -1 else 1) * valF 0 D, 0, []) := by
  obtain ⟨s1, s2⟩ := sign_text m D [] (by rw [List.append_nil]; exact hh)
  rw [List.append_nil] at s1 s2
  have hd : digs D = D := digs_full hD
  unfold numR numI
  rw [s1, s2, hd, if_pos (c := 1 ≤ D.length ∧ D.length ≤ 12) ⟨h1, h12⟩, if_pos (c := 1 ≤ D.length ∧ D.length ≤ 12) ⟨h1, h12⟩, List.drop_length]
  unfold numT
  rw [if_neg (show ¬ headB 46 [] = true from by simp [headB])]
  exact ⟨rfl, rfl⟩
theorem num_long (m : Int) (D r : List UInt8) (hD : D.all dg = true) (h12 : 12 < D.length) (hr : r = [] ∨ ∃ x, r = 46 :: x) (hh : headB 45 (D ++ r) = false) :
    numR ((if m < 0 then [45] else []) ++ (D ++ r)) = none ∧ numI ((if m < 0 then [45] else []) ++ (D ++ r)) = none := by
  obtain ⟨s1, s2⟩ := sign_text m D r hh
  unfold numR numI
  rw [s1, s2, digs_app hD hr, if_neg (c := 1 ≤ D.length ∧ D.length ≤ 12) (by omega), if_neg (c := 1 ≤ D.length ∧ D.length ≤ 12) (by omega)]
  exact ⟨rfl, rfl⟩
#print axioms plac_spec
#print axioms numR_text
end Go.Fx
/- What is printed is read back; the law FixedBack, as a contract. Conditions: the table of powers of ten holds what the card lays. -/
namespace Go.Fx
open Go.Proofs
theorem print_zero (m : Int) : printN m 0 = (if m < 0 then [45] else []) ++ Lib.decDigits m.natAbs := by
  unfold printN printA
  simp
theorem print_places (m : Int) (s : Nat) (h : s ≠ 0) : printN m s = (if m < 0 then [45] else []) ++ (Lib.decDigits (m.natAbs / 10 ^ s) ++ 46 :: plac m.natAbs s) := by
  unfold printN printA plac
  rw [if_neg h]
theorem div_short {a s : Nat} (ha : a ≤ 1000000000000) (hs : 1 ≤ s) : (Lib.decDigits (a / 10 ^ s)).length ≤ 12 := by
  apply dec_short (by omega)
  have h1 : 10 ^ 1 ≤ 10 ^ s := Nat.pow_le_pow_right (by omega) hs
  have h2 : a / 10 ^ s ≤ a / 10 ^ 1 := Nat.div_le_div_left h1 (by omega)
  omega
theorem back_places (m : Int) (s : Nat) (hs1 : 1 ≤ s) (hs : s ≤ 6) (ha : m.natAbs ≤ 1000000000000) : readN (printN m s) = chkL (least s m) ∧ intN (printN m s) = (0, 0, 20) := by
  obtain ⟨p1, p2, p3⟩ := plac_spec m.natAbs s
  have hh := dec_head (m.natAbs / 10 ^ s) (46 :: plac m.natAbs s)
  rw [print_places m s (by omega)]
  constructor
  · unfold readN
    rw [numR_text m _ _ (dec_all _) (dec_ne _) (div_short ha hs1) p2 (by omega) (by omega) hh, p1, p3, dec_val, takeN_end, p10_nat]
    congr 2
    conv => rhs; rw [← sgn_abs m]
    congr 1
    have := Nat.div_add_mod m.natAbs (10 ^ s)
    rw [Nat.mul_comm] at this
    rw [← Int.natCast_mul, ← Int.natCast_add, this]
  · unfold intN
    obtain ⟨s1, s2⟩ := sign_text m (Lib.decDigits (m.natAbs / 10 ^ s)) (46 :: plac m.natAbs s) hh
    unfold numI
    rw [s1, s2, digs_app (dec_all _) (.inr ⟨_, rfl⟩), List.drop_left]
    split
    · exact takeN_rest (by simp)
    · rfl
theorem back_whole (m : Int) (ha : m.natAbs < 1000000000000) : readN (printN m 0) = chkL (m, 0) ∧ intN (printN m 0) = chkL (m, 0) := by
  have hh := dec_head m.natAbs []
  rw [List.append_nil] at hh
  obtain ⟨h1, h2⟩ := numR_whole m _ (dec_all m.natAbs) (dec_ne _) (dec_short (by omega) ha) hh
  unfold readN intN
  rw [print_zero, h1, h2, dec_val, sgn_abs, takeN_end]
  exact ⟨rfl, rfl⟩
theorem back_great (m : Int) (ha : m.natAbs = 1000000000000) : readN (printN m 0) = (0, 0, 20) ∧ intN (printN m 0) = (0, 0, 20) := by
  have hh := dec_head m.natAbs []
  have hl : 12 < (Lib.decDigits m.natAbs).length := by
    rw [Lib.decDigits_length, Lib.nDigits_unique 12 m.natAbs (by omega) (by omega)]; omega
  obtain ⟨h1, h2⟩ := num_long m _ [] (dec_all m.natAbs) hl (.inl rfl) hh
  rw [List.append_nil] at h1 h2
  unfold readN intN
  rw [print_zero, h1, h2]
  exact ⟨rfl, rfl⟩
/-- How what is read back hangs together with the number's least form. -/
def BackH (m s x y M S E k f : Int) : Prop :=
  (100000000 < x ∧ (E != 0) = true) ∨ (x < -100000000 ∧ (E != 0) = true) ∨
  (-100000000 ≤ x ∧ x ≤ 100000000 ∧ E = 0 ∧ M = x ∧ S = y ∧ 0 < s ∧ f = 20) ∨ (-100000000 ≤ x ∧ x ≤ 100000000 ∧ E = 0 ∧ M = x ∧ S = y ∧ s = 0 ∧ f = 0 ∧ k = m)
theorem back_all (m : Int) (s : Nat) (hs : s ≤ 6) (h1 : -1000000000000 ≤ m) (h2 : m ≤ 1000000000000) :
    BackH m s (least s m).1 ((least s m).2 : Int) (readN (printN m s)).1 ((readN (printN m s)).2.1 : Int) (readN (printN m s)).2.2 (intN (printN m s)).1 (intN (printN m s)).2.2 := by
  unfold BackH
  by_cases hs0 : s = 0
  · subst hs0
    have hl : least 0 m = (m, 0) := rfl
    rw [hl]
    by_cases hg : m.natAbs = 1000000000000
    · rw [(back_great m hg).1, (back_great m hg).2]
      by_cases hp : 0 < m
      · exact .inl ⟨by simp only; omega, rfl⟩
      · exact .inr (.inl ⟨by simp only; omega, rfl⟩)
    · obtain ⟨e1, e2⟩ := back_whole m (by omega)
      rw [e1, e2]
      by_cases hf : fitB m = true
      · have := fitB_of hf
        rw [chkL_yes hf]
        exact .inr (.inr (.inr ⟨this.1, this.2, rfl, rfl, rfl, rfl, rfl, rfl⟩))
      · rw [chkL_no hf]
        rcases fitB_not hf with h | h
        · exact .inr (.inl ⟨h, rfl⟩)
        · exact .inl ⟨h, rfl⟩
  · obtain ⟨e1, e2⟩ := back_places m s (by omega) hs (by omega)
    rw [e1, e2]
    generalize least s m = l
    obtain ⟨x, y⟩ := l
    by_cases hf : fitB x = true
    · have := fitB_of hf
      rw [chkL_yes hf]
      exact .inr (.inr (.inl ⟨this.1, this.2, rfl, rfl, rfl, by omega, rfl⟩))
    · rw [chkL_no hf]
      rcases fitB_not hf with h | h
      · exact .inr (.inl ⟨h, rfl⟩)
      · exact .inl ⟨h, rfl⟩
theorem print_short (m : Int) (s : Nat) (hs : s ≤ 6) (ha : m.natAbs ≤ 1000000000000) : (printN m s).length ≤ 100 := by
  have h0 : (if m < 0 then [(45 : UInt8)] else []).length ≤ 1 := by split <;> simp
  by_cases h : s = 0
  · subst h
    rw [print_zero, List.length_append]
    have := (dec_len m.natAbs (by omega)).2
    omega
  · rw [print_places m s h, List.length_append, List.length_append, List.length_cons, (plac_spec m.natAbs s).1]
    have := div_short ha (show 1 ≤ s by omega)
    omega
#print axioms back_all
end Go.Fx
/- Plain facts of layer 14: lines of a head, what each does; the head that lines tell. No program. -/
namespace Go.Hdr
open Go.Wds Go.Proofs Go.Cur Go.Fx Go.Metric Go.Layout
/-- A text in one word, without ends of lines. -/
def OneW (v : List UInt8) : Prop := v ≠ [] ∧ ∀ x ∈ v, blk x = false ∧ x ≠ 10 ∧ x ≠ 13
theorem OneW.bare {v : List UInt8} (h : OneW v) : Bare v := ⟨fun x hx => (h.2 x (List.mem_of_getElem? hx)).1, fun x hx => (h.2 x (List.mem_of_getElem? hx)).1⟩
theorem blk_colon {x : UInt8} (h : blk x = true) : colB x = false := by
  unfold blk at h
  unfold colB
  rw [beq_eq_false_iff_ne]
  intro e
  subst e
  revert h; decide
theorem hkey_line {g c r : List UInt8} {k : ByteArray} (hk : isKey k = true) (hg : ∀ x ∈ g, blk x = true) (hc : ∀ x ∈ c, blk x = true) {m : List UInt8} (hm : m = g ++ k.data.toList ++ c ++ 58 :: r) :
    seekL colB m 0 m.length = g.length + k.size + c.length ∧ keyL m 0 m.length = k := by
  have hkl : k.data.toList.length = k.size := by simp
  obtain ⟨hk0, hkf, hkl2⟩ := key_bare hk
  obtain ⟨_, _, hkb⟩ := key_byte hk
  have hlen : m.length = g.length + k.size + c.length + (r.length + 1) := by rw [hm]; simp only [List.length_append, List.length_cons, hkl]
  have hs : seekL colB m 0 m.length = g.length + k.size + c.length := by
    refine seek_eq (Nat.zero_le _) (by omega) (fun j x _ h1 h => ?_) (fun _ => ⟨58, ?_, rfl⟩)
    · rw [hm, List.getElem?_append_left (by simp only [List.length_append, hkl]; omega)] at h
      have hx := List.mem_of_getElem? h
      rw [List.mem_append, List.mem_append] at hx
      rcases hx with (hx | hx) | hx
      · exact blk_colon (hg x hx)
      · exact (hkb x hx).2
      · exact blk_colon (hc x hx)
    · rw [hm, List.getElem?_append_right (by simp only [List.length_append, hkl]; omega)]
      simp only [List.length_append, hkl, Nat.sub_self]
      rfl
  refine ⟨hs, ?_⟩
  have ht := trim_mid (a := g) (k := k.data.toList) (c := c) (r := 58 :: r) (e := g.length + k.size + c.length) hg hc hk0 hkf hkl2 (by rw [hkl])
  rw [← hm] at ht
  have htr := trimL_of (Nat.zero_le _) (by omega) ht
  unfold keyL
  rw [hs, htr, hkl]
  apply bytes_ext
  show cutL m g.length (g.length + k.size) = _
  rw [hm, List.append_assoc, List.append_assoc]
  have := hcut_high g (k.data.toList ++ (c ++ 58 :: r)) 0 k.size
  rw [Nat.zero_add, Nat.add_comm k.size] at this
  rw [this, hcut_low (by omega)]
  unfold cutL
  rw [List.extract_eq_take_drop, List.drop_zero, Nat.sub_zero, ← hkl, List.take_length]
theorem hkey_alone {k : ByteArray} (hk : isKey k = true) : keyL k.data.toList 0 k.data.toList.length = k := by
  obtain ⟨hk0, hkf, hkl2⟩ := key_bare hk
  obtain ⟨_, _, hkb⟩ := key_byte hk
  have hs : seekL colB k.data.toList 0 k.data.toList.length = k.data.toList.length := by
    refine seek_eq (Nat.zero_le _) (Nat.le_refl _) (fun j x _ h1 h => (hkb x (List.mem_of_getElem? h)).2) (fun h => absurd h (Nat.lt_irrefl _))
  have ht := trim_mid (a := []) (k := k.data.toList) (c := []) (r := []) (e := k.data.toList.length) (fun x h => by simp at h) (fun x h => by simp at h) hk0 hkf hkl2 (by simp)
  rw [List.nil_append, List.append_nil, List.append_nil, List.length_nil, Nat.zero_add] at ht
  have htr := trimL_of (Nat.zero_le _) (Nat.le_refl _) ht
  unfold keyL
  rw [hs, htr]
  apply bytes_ext
  show cutL _ _ _ = _
  unfold cutL
  rw [List.extract_eq_take_drop, List.drop_zero, Nat.sub_zero, List.take_length]
theorem hval_line {g c v : List UInt8} {k : ByteArray} (hk : isKey k = true) (hg : ∀ x ∈ g, blk x = true) (hc : ∀ x ∈ c, blk x = true) (hv0 : v ≠ []) (hv : Bare v) {m : List UInt8} (hm : m = g ++ k.data.toList ++ c ++ 58 :: (c ++ v)) :
    (valL m 0 m.length).1 ≤ (valL m 0 m.length).2 ∧ (valL m 0 m.length).2 ≤ m.length ∧ cutL m (valL m 0 m.length).1 (valL m 0 m.length).2 = v := by
  have hkl : k.data.toList.length = k.size := by simp
  have hs := (hkey_line hk hg hc hm).1
  have hlen : m.length = g.length + k.size + c.length + 1 + (c.length + v.length) := by rw [hm]; simp only [List.length_append, List.length_cons, hkl]; omega
  have e0 : m = (g ++ k.data.toList ++ c ++ [58]) ++ (c ++ v) := by rw [hm]; simp
  have ha : (g ++ k.data.toList ++ c ++ [58]).length = g.length + k.size + c.length + 1 := by simp only [List.length_append, hkl, List.length_cons, List.length_nil]
  have ht := trim_mid (a := c) (k := v) (c := []) (r := []) (e := c.length + v.length) hc (fun x h => by simp at h) hv0 hv.1 hv.2 (by simp)
  rw [List.append_nil, List.append_nil] at ht
  have htr := trimL_of (Nat.zero_le _) (by simp) ht
  have h2 := trimL_high (a := g ++ k.data.toList ++ c ++ [58]) (b := c ++ v) (p := 0) (q := c.length + v.length) (Nat.zero_le _) (by simp)
  rw [← e0, htr, Nat.zero_add, ha] at h2
  have e : valL m 0 m.length = (g.length + k.size + c.length + 1 + c.length, m.length) := by
    unfold valL
    rw [hs, if_pos (by omega), show m.length = c.length + v.length + (g.length + k.size + c.length + 1) by omega, h2]
    unfold shift2
    refine Prod.ext ?_ ?_ <;> simp only <;> omega
  rw [e]
  refine ⟨by simp only; omega, Nat.le_refl _, ?_⟩
  simp only
  have := hcut_high (g ++ k.data.toList ++ c ++ [58]) (c ++ v) c.length (c.length + v.length)
  rw [← e0, ha] at this
  rw [show g.length + k.size + c.length + 1 + c.length = c.length + (g.length + k.size + c.length + 1) by omega, show m.length = c.length + v.length + (g.length + k.size + c.length + 1) by omega, this]
  unfold cutL
  rw [List.extract_eq_take_drop]; simp
/-- What a row of a key does. -/
theorem rowE_key {m : List UInt8} {k : ByteArray} {p : Pr} {z : Nat} (hk : isKey k = true) (hm : keyL m 0 m.length = k) : rowE (bs m) p (0, m.length, z) =
    if endB k = true then .stop else if skipB k = true then .go p else if hplaceE k < 0 ∨ p.c (hplaceE k).toNat = true then .bad 0 140
    else if (putE p.h (hplaceE k) (textI (bs m) ((valL m 0 m.length).1 : Nat) ((valL m 0 m.length).2 : Nat))).2 = false then .bad (valL m 0 m.length).1 141
    else .go ⟨(putE p.h (hplaceE k) (textI (bs m) ((valL m 0 m.length).1 : Nat) ((valL m 0 m.length).2 : Nat))).1, fun i => p.c i || decide (i = (hplaceE k).toNat)⟩ := by
  unfold rowE
  simp only
  rw [keyE_bs, hm, hk]
  simp only [if_true, Bool.true_eq_false, if_false]
theorem hspans_line : ∀ (m : List UInt8) (b a : Nat), (∀ x ∈ m, x ≠ 10) → spansFrom (m ++ [10]) b a = [(a, b + m.length), (b + m.length + 1, b + m.length + 1)]
  | [], b, a, _ => rfl
  | c :: m, b, a, hm => by
    rw [List.cons_append, spansFrom, if_neg (hm c (by simp)), hspans_line m (b + 1) a fun x hx => hm x (by simp [hx]), List.length_cons]
    congr 2
    · omega
    · congr 1
      all_goals omega
/-- Where a line's text ends. -/
def lineTo (m : List UInt8) : Nat := if 0 < m.length ∧ m[m.length - 1]? = some 13 then m.length - 1 else m.length
theorem hlines_line {m : List UInt8} (h : ∀ x ∈ m, x ≠ 10) : lines (m ++ [10]) = [(0, lineTo m, m.length + 1)] := by
  have hsp : spans (m ++ [10]) = [(0, m.length), (m.length + 1, m.length + 1)] := by
    have := hspans_line m 0 0 h
    rw [Nat.zero_add] at this
    exact this
  unfold lines
  rw [hsp, List.takeWhile_cons, if_pos (by simp), List.takeWhile_cons, if_neg (by simp)]
  have e : ∀ x, (0 < m.length ∧ (m ++ [10])[m.length - 1]? = some x) ↔ (0 < m.length ∧ m[m.length - 1]? = some x) := fun x => by
    refine and_congr_right fun h0 => ?_
    rw [List.getElem?_append_left (by omega)]
  show [lineAt (m ++ [10]) (0, m.length)] = _
  unfold lineAt lineTo
  simp only
  rw [if_neg (by simp)]
  simp only [e]
theorem hrows_line {m : List UInt8} (h : ∀ x ∈ m, x ≠ 10) : rowsOf (m ++ [10]) = if blankL (m.take (lineTo m)) = true then [] else [(0, lineTo m, m.length + 1)] := by
  have ht : lineTo m ≤ m.length := by unfold lineTo; split <;> omega
  unfold rowsOf
  rw [hlines_line h]
  have e : bare (m ++ [10]) (0, lineTo m, m.length + 1) = !blankL (m.take (lineTo m)) := by
    unfold bare
    simp only
    rw [hcut_low ht]
    unfold cutL
    rw [List.extract_eq_take_drop]; simp
  rw [List.filter_cons, e]
  all_goals (cases blankL (m.take (lineTo m)) <;> rfl)
theorem runA_line {m : List UInt8} {p : Pr} (h : ∀ x ∈ m, x ≠ 10) (hb : blankL (m.take (lineTo m)) = false) : runA (m ++ [10]) p = match rowE (bs (m.take (lineTo m))) p (0, (m.take (lineTo m)).length, m.length + 1) with
    | .stop => .inr (p, some 0)
    | .bad a c => .inl (a, c)
    | .go q => .inr (q, none) := by
  have ht : lineTo m ≤ m.length := by unfold lineTo; split <;> omega
  have hl : (m.take (lineTo m)).length = lineTo m := by rw [List.length_take]; omega
  unfold runA
  rw [hrows_line h, hb]
  simp only [Bool.false_eq_true, if_false]
  unfold runR
  have e : m ++ [10] = m.take (lineTo m) ++ (m.drop (lineTo m) ++ [10]) := by rw [← List.append_assoc, List.take_append_drop]
  rw [e, rowE_low (Nat.zero_le _) (by omega), hl]
  all_goals (cases rowE (bs (m.take (lineTo m))) p (0, lineTo m, m.length + 1) <;> rfl)
theorem runA_blank {m : List UInt8} {p : Pr} (h : ∀ x ∈ m, x ≠ 10) (hb : blankL (m.take (lineTo m)) = true) : runA (m ++ [10]) p = .inr (p, none) := by
  unfold runA
  rw [hrows_line h, hb]
  rfl
theorem runA_nil (p : Pr) : runA [] p = .inr (p, none) := by
  unfold runA
  have : rowsOf [] = [] := by decide
  rw [this]; rfl
/-- It is nothing, or it ends in a line feed. -/
def Ends10 (l : List UInt8) : Prop := l = [] ∨ ∃ a, l = a ++ [10]
theorem Ends10.cat {a b : List UInt8} (ha : Ends10 a) (hb : Ends10 b) : Ends10 (a ++ b) := by
  rcases hb with rfl | ⟨c, rfl⟩
  · rw [List.append_nil]; exact ha
  · exact .inr ⟨a ++ c, by rw [List.append_assoc]⟩
theorem shiftX_zero (x : (Nat × Int) ⊕ (Pr × Option Nat)) : shiftX 0 x = x := by
  rcases x with ⟨a, c⟩ | ⟨q, _ | e⟩ <;> rfl
theorem runA_cat {a b : List UInt8} {p : Pr} (h : Ends10 a) : runA (a ++ b) p = andX (runA a p) (fun q => shiftX a.length (runA b q)) := by
  rcases h with rfl | ⟨c, rfl⟩
  · rw [runA_nil, List.nil_append]
    show _ = shiftX 0 (runA b p)
    rw [shiftX_zero]
  · rw [List.append_assoc, List.singleton_append, runA_join, List.length_append]
    rfl
/-! The lines of a head. -/
def hkey : Nat → ByteArray
  | 0 => hkName
  | 1 => hkType
  | 2 => hkDim
  | 3 => hkCap
  | 4 => hkMet
  | _ => hkLay
def itemV (h : Hd) : Nat → ByteArray
  | 0 => h.name
  | 1 => kindS h.kind
  | 2 => numS h.dim
  | 3 => numS h.cap
  | 4 => kwS h.met
  | _ => lkwS h.lay
def hasI (h : Hd) : Nat → Bool
  | 3 => decide (h.kind = 2)
  | 5 => decide (h.met = 0)
  | _ => true
theorem hkey_is : ∀ i, i ≤ 5 → isKey (hkey i) = true ∧ endB (hkey i) = false ∧ skipB (hkey i) = false ∧ hplaceE (hkey i) = (i : Int) := by decide +kernel
structure MayF (h : Hd) : Prop where
  name : nameL h.name.data.toList = true
  dim : 1 ≤ h.dim ∧ h.dim ≤ 400
  met : 0 ≤ h.met ∧ h.met ≤ 5
  lay : (h.met = 0 ∧ 1 ≤ h.lay ∧ h.lay ≤ 7) ∨ (h.met ≠ 0 ∧ h.lay = 0)
  kind : (h.kind = 1 ∧ h.cap = 0) ∨ (h.kind = 2 ∧ 1 ≤ h.cap ∧ h.cap ≤ 100000000)
theorem mayF {h : Hd} (hm : mayH h = true) : MayF h := by
  unfold mayH at hm
  simp only [Bool.and_eq_true, decide_eq_true_eq] at hm
  exact ⟨hm.1.1.1.1, hm.1.1.1.2, hm.1.1.2, hm.1.2, hm.2⟩
theorem name_one {l : List UInt8} (h : nameL l = true) : OneW l ∧ l.length ≤ 40 := by
  unfold nameL fitL allL at h
  simp only [Bool.and_eq_true, decide_eq_true_eq, List.all_eq_true] at h
  refine ⟨⟨fun e => by rw [e] at h; simp at h, fun x hx => ?_⟩, h.1.2⟩
  have hp := h.2 x hx
  unfold ofB at hp
  rw [nameP_eq, decide_eq_true_eq] at hp
  refine ⟨?_, fun e => by subst e; simp at hp, fun e => by subst e; simp at hp⟩
  unfold blk
  rw [Bool.or_eq_false_iff, beq_eq_false_iff_ne, beq_eq_false_iff_ne]
  exact ⟨fun e => by subst e; simp at hp, fun e => by subst e; simp at hp⟩
theorem num_one (n : Int) : OneW (Lib.itoa n) := by
  have hd : ∀ (u : Nat), ∀ x ∈ Lib.decDigits u, blk x = false ∧ x ≠ 10 ∧ x ≠ 13 := fun u x hx => by
    have h1 := dec_all u
    rw [List.all_eq_true] at h1
    have := dg_bd (h1 x hx)
    refine ⟨?_, fun e => by subst e; simp at this, fun e => by subst e; simp at this⟩
    unfold blk
    rw [Bool.or_eq_false_iff, beq_eq_false_iff_ne, beq_eq_false_iff_ne]
    exact ⟨fun e => by subst e; simp at this, fun e => by subst e; simp at this⟩
  have hn : ∀ u, Lib.decDigits u ≠ [] := fun u e => by have := dec_ne u; rw [e] at this; simp at this
  unfold Lib.itoa
  split
  · refine ⟨by simp, fun x hx => ?_⟩
    rcases List.mem_cons.1 hx with rfl | hx
    · exact ⟨by decide, by decide, by decide⟩
    · exact hd _ x hx
  · exact ⟨hn _, hd _⟩
theorem hitoa_print (n : Int) : printN n 0 = Lib.itoa n := by
  rw [print_zero]
  unfold Lib.itoa
  by_cases h : n < 0
  · rw [if_pos h, if_pos h]; rfl
  · rw [if_neg h, if_neg h, List.nil_append, show n.natAbs = n.toNat from by omega]
theorem num_read {n : Int} (h1 : 1 ≤ n) (h2 : n ≤ 100000000) {most : Int} (h3 : n ≤ most) : numE (numS n) most = n := by
  have hb := (back_whole n (by omega)).2
  rw [hitoa_print] at hb
  have hc : chkL (n, 0) = (n, 0, 0) := by
    unfold chkL
    first
      | (rw [if_pos (by unfold fitB; simp; omega)])
      | (simp [fitB]; omega)
  rw [hc] at hb
  have hs := int_same (Lib.itoa n)
  rw [hb] at hs
  unfold numE numS
  show (if (intR (Lib.itoa n)).2 = 0 ∧ 1 ≤ (intR (Lib.itoa n)).1 ∧ (intR (Lib.itoa n)).1 ≤ most then (intR (Lib.itoa n)).1 else 0) = n
  rw [← hs.1, ← hs.2, if_pos ⟨rfl, h1, h3⟩]
theorem kw_is {m : Int} (h0 : 0 ≤ m) (h5 : m ≤ 5) : ofR (kwS m) = (m, true) ∧ OneW (kwS m).data.toList := by
  rcases (show m = 0 ∨ m = 1 ∨ m = 2 ∨ m = 3 ∨ m = 4 ∨ m = 5 by omega) with rfl | rfl | rfl | rfl | rfl | rfl
  all_goals exact ⟨by decide +kernel, by unfold OneW; decide +kernel⟩
theorem lkw_is {m : Int} (h0 : 1 ≤ m) (h5 : m ≤ 7) : lofR (lkwS m) = m ∧ OneW (lkwS m).data.toList := by
  rcases (show m = 1 ∨ m = 2 ∨ m = 3 ∨ m = 4 ∨ m = 5 ∨ m = 6 ∨ m = 7 by omega) with rfl | rfl | rfl | rfl | rfl | rfl | rfl
  all_goals exact ⟨by decide +kernel, by unfold OneW; decide +kernel⟩
theorem item_one {h : Hd} (hm : MayF h) {i : Nat} (h5 : i ≤ 5) (hi : hasI h i = true) : OneW (itemV h i).data.toList := by
  rcases (show i = 0 ∨ i = 1 ∨ i = 2 ∨ i = 3 ∨ i = 4 ∨ i = 5 by omega) with rfl | rfl | rfl | rfl | rfl | rfl
  · exact (name_one hm.name).1
  · show OneW (kindS h.kind).data.toList
    unfold kindS
    split
    all_goals (unfold OneW; decide +kernel)
  · exact num_one _
  · exact num_one _
  · exact (kw_is hm.met.1 hm.met.2).2
  · have : h.met = 0 := of_decide_eq_true hi
    rcases hm.lay with hl | hl
    · exact (lkw_is hl.2.1 hl.2.2).2
    · exact absurd this hl.1
/-- What some lines of a head tell. -/
def hdOf (S : Nat → Bool) (h : Hd) : Hd := ⟨if S 0 then h.name else ⟨#[]⟩, if S 1 then h.kind else 0, if S 2 then h.dim else 0, if S 3 then h.cap else 0, if S 4 then h.met else 0, if S 5 then h.lay else 0⟩
def addS (S : Nat → Bool) (i : Nat) : Nat → Bool := fun j => S j || decide (j = i)
def Pst (h : Hd) (S : Nat → Bool) : Pr := ⟨hdOf S h, S⟩
theorem put_item {h : Hd} (hm : MayF h) {S : Nat → Bool} {i : Nat} (h5 : i ≤ 5) (hi : hasI h i = true) : putE (hdOf S h) (i : Int) (itemV h i) = (hdOf (addS S i) h, true) := by
  rcases (show i = 0 ∨ i = 1 ∨ i = 2 ∨ i = 3 ∨ i = 4 ∨ i = 5 by omega) with rfl | rfl | rfl | rfl | rfl | rfl
  · show (({ hdOf S h with name := h.name } : Hd), nameL h.name.data.toList) = _
    rw [hm.name]
    simp [hdOf, addS]
  · have hk : (if kindS h.kind = hkCvrp then (2 : Int) else if kindS h.kind = hkTsp then 1 else (hdOf S h).kind) = h.kind := by
      rcases hm.kind with hk | hk
      · rw [hk.1]
        have : kindS 1 = hkTsp := by unfold kindS; rfl
        rw [this, if_neg (by decide), if_pos rfl]
      · rw [hk.1]
        have : kindS 2 = hkCvrp := by unfold kindS; rfl
        rw [this, if_pos rfl]
    show (({ hdOf S h with kind := (if kindS h.kind = hkCvrp then (2 : Int) else if kindS h.kind = hkTsp then 1 else (hdOf S h).kind) } : Hd), decide (0 < (if kindS h.kind = hkCvrp then (2 : Int) else if kindS h.kind = hkTsp then 1 else (hdOf S h).kind))) = _
    rw [hk, decide_eq_true (show 0 < h.kind by rcases hm.kind with hk | hk <;> omega)]
    simp [hdOf, addS]
  · show (({ hdOf S h with dim := numE (numS h.dim) 400 } : Hd), decide (0 < numE (numS h.dim) 400)) = _
    have := hm.dim
    rw [num_read (by omega) (by omega) (by omega), decide_eq_true (by omega)]
    simp [hdOf, addS]
  · show (({ hdOf S h with cap := numE (numS h.cap) 100000000 } : Hd), decide (0 < numE (numS h.cap) 100000000)) = _
    have hk : h.kind = 2 := of_decide_eq_true hi
    have := hm.kind
    rw [num_read (by omega) (by omega) (by omega), decide_eq_true (by omega)]
    simp [hdOf, addS]
  · show (({ hdOf S h with met := (ofR (kwS h.met)).1 } : Hd), (ofR (kwS h.met)).2) = _
    rw [(kw_is hm.met.1 hm.met.2).1]
    simp [hdOf, addS]
  · show (({ hdOf S h with lay := lofR (lkwS h.lay) } : Hd), decide (0 < lofR (lkwS h.lay))) = _
    have hk : h.met = 0 := of_decide_eq_true hi
    have hl : 1 ≤ h.lay ∧ h.lay ≤ 7 := by
      rcases hm.lay with hl | hl
      · exact hl.2
      · exact absurd hk hl.1
    rw [(lkw_is hl.1 hl.2).1, decide_eq_true (by omega)]
    simp [hdOf, addS]
/-- A line, without its end. -/
def lnI (g : List UInt8) (h : Hd) (i : Nat) : List UInt8 := g ++ (hkey i).data.toList ++ [32] ++ 58 :: ([32] ++ (itemV h i).data.toList)
theorem blk_one : ∀ x ∈ ([32] : List UInt8), blk x = true := by decide
theorem isKey_low {k : ByteArray} (hk : isKey k = true) : ∀ x ∈ k.data.toList, x ≠ 10 ∧ x ≠ 13 := fun x hx => by
  unfold isKey fitL allL at hk
  simp only [Bool.and_eq_true, decide_eq_true_eq, List.all_eq_true] at hk
  have hp := hk.2 x hx
  unfold ofB at hp
  rw [keyP_eq, decide_eq_true_eq] at hp
  exact ⟨fun e => by subst e; simp at hp, fun e => by subst e; simp at hp⟩
theorem blk_low {x : UInt8} (h : blk x = true) : x ≠ 10 ∧ x ≠ 13 := ⟨fun e => by subst e; revert h; decide, fun e => by subst e; revert h; decide⟩
theorem lnI_low {g : List UInt8} {h : Hd} (hm : MayF h) {i : Nat} (h5 : i ≤ 5) (hi : hasI h i = true) (hg : ∀ x ∈ g, blk x = true) : ∀ x ∈ lnI g h i, x ≠ 10 ∧ x ≠ 13 := fun x hx => by
  unfold lnI at hx
  simp only [List.mem_append, List.mem_cons, List.not_mem_nil, or_false] at hx
  have ho := (item_one hm h5 hi).2
  rcases hx with ((hx | hx) | hx) | hx | hx | hx
  · exact blk_low (hg x hx)
  · exact isKey_low (hkey_is i h5).1 x hx
  · subst hx; exact ⟨by decide, by decide⟩
  · subst hx; exact ⟨by decide, by decide⟩
  · subst hx; exact ⟨by decide, by decide⟩
  · exact (ho x hx).2
theorem lineTo_all {m : List UInt8} (h : ∀ x ∈ m, x ≠ 13) : lineTo m = m.length := by
  unfold lineTo
  rw [if_neg]
  rintro ⟨_, h1⟩
  exact h 13 (List.mem_of_getElem? h1) rfl
theorem blankL_not {m : List UInt8} {x : UInt8} (hx : x ∈ m) (hb : blk x = false) : blankL m = false := by
  unfold blankL
  rw [List.all_eq_false]
  refine ⟨x, hx, ?_⟩
  unfold blk at hb
  rw [hb]; decide
theorem colon_ink : blk 58 = false := by decide
theorem run_item {g : List UInt8} {h : Hd} (hm : MayF h) {S : Nat → Bool} {i : Nat} (h5 : i ≤ 5) (hi : hasI h i = true) (hg : ∀ x ∈ g, blk x = true) : runA (lnI g h i ++ [10]) (Pst h S) = if S i = true then .inl (0, 140) else .inr (Pst h (addS S i), none) := by
  have hlow := lnI_low hm h5 hi hg
  obtain ⟨hk, he, hs, hp⟩ := hkey_is i h5
  obtain ⟨ho1, _⟩ := item_one hm h5 hi
  have hbare := (item_one hm h5 hi).bare
  have ht : (lnI g h i).take (lineTo (lnI g h i)) = lnI g h i := by rw [lineTo_all fun x hx => (hlow x hx).2, List.take_length]
  have hbl : blankL (lnI g h i) = false := blankL_not (x := 58) (by unfold lnI; simp) colon_ink
  rw [runA_line (fun x hx => (hlow x hx).1) (by rw [ht]; exact hbl), ht]
  rw [rowE_key (m := lnI g h i) hk (hkey_line (m := lnI g h i) hk hg blk_one rfl).2]
  obtain ⟨v1, v2, v3⟩ := hval_line hk hg blk_one ho1 hbare (m := lnI g h i) rfl
  rw [he, hs, hp, textI_bs v1 v2, v3]
  simp only [Bool.false_eq_true, if_false, Int.toNat_natCast]
  have e : bs (itemV h i).data.toList = itemV h i := bs_eta _
  rw [e]
  show (match (if (i : Int) < 0 ∨ S i = true then Rs.bad 0 140 else if (putE (hdOf S h) (i : Int) (itemV h i)).2 = false then _ else Rs.go ⟨(putE (hdOf S h) (i : Int) (itemV h i)).1, _⟩) with | .stop => _ | .bad a c => _ | .go q => _) = _
  rw [put_item hm h5 hi]
  by_cases hS : S i = true
  · rw [if_pos (.inr hS), if_pos hS]
  · rw [if_neg (by rintro (h0 | h0); omega; exact hS h0), if_neg hS]
    rfl
end Go.Hdr
/- Plain facts of layer 14: the text of a head, told again, with other lines. No program. -/
namespace Go.Hdr
open Go.Wds Go.Proofs Go.Cur Go.Fx Go.Metric Go.Layout
/-- The lines that a head has. -/
def itemsL (h : Hd) : List Nat := [0, 1, 2] ++ (if h.kind = 2 then [3] else []) ++ [4] ++ (if h.met = 0 then [5] else [])
theorem items_mem {h : Hd} {i : Nat} : i ∈ itemsL h ↔ i ≤ 5 ∧ hasI h i = true := by
  unfold itemsL
  by_cases h2 : h.kind = 2 <;> by_cases h0 : h.met = 0
  all_goals
    simp only [h2, h0, if_true, if_false, List.append_nil, List.mem_append, List.mem_cons, List.not_mem_nil, or_false]
    constructor
    · intro hi
      have : i ≤ 5 := by omega
      refine ⟨this, ?_⟩
      rcases (show i = 0 ∨ i = 1 ∨ i = 2 ∨ i = 3 ∨ i = 4 ∨ i = 5 by omega) with rfl | rfl | rfl | rfl | rfl | rfl <;> simp_all [hasI]
    · rintro ⟨h5, hi⟩
      rcases (show i = 0 ∨ i = 1 ∨ i = 2 ∨ i = 3 ∨ i = 4 ∨ i = 5 by omega) with rfl | rfl | rfl | rfl | rfl | rfl <;> simp_all [hasI]
theorem items_nodup (h : Hd) : (itemsL h).Nodup := by
  unfold itemsL
  by_cases h2 : h.kind = 2 <;> by_cases h0 : h.met = 0
  all_goals
    simp only [h2, h0, if_true, if_false, List.append_nil]
    decide
theorem items_len (h : Hd) : 4 ≤ (itemsL h).length ∧ (itemsL h).length ≤ 6 := by
  unfold itemsL
  by_cases h2 : h.kind = 2 <;> by_cases h0 : h.met = 0
  all_goals
    simp only [h2, h0, if_true, if_false, List.append_nil]
    decide
/-- The text of some lines, with g ahead of each. -/
def txtI (g : List UInt8) (h : Hd) (L : List Nat) : List UInt8 := L.flatMap fun i => lnI g h i ++ [10]
theorem txtI_ends (g : List UInt8) (h : Hd) : ∀ L : List Nat, Ends10 (txtI g h L)
  | [] => .inl rfl
  | i :: L => by
    have e : txtI g h (i :: L) = (lnI g h i ++ [10]) ++ txtI g h L := rfl
    rw [e]
    exact Ends10.cat (.inr ⟨_, rfl⟩) (txtI_ends g h L)
theorem lineH_list (k v : ByteArray) : (lineH k v).data.toList = k.data.toList ++ [32] ++ 58 :: ([32] ++ v.data.toList) ++ [10] := by
  unfold lineH
  rw [app_list, app_list, app_list]
  unfold col lf
  simp
theorem printE_txt {h : Hd} (hm : mayH h = true) : (printE h).data.toList = txtI [] h (itemsL h) := by
  unfold printE
  rw [if_pos hm]
  simp only [app_list, lineH_list]
  unfold txtI itemsL
  have e : ∀ i, lnI [] h i ++ [10] = (hkey i).data.toList ++ [32] ++ 58 :: ([32] ++ (itemV h i).data.toList) ++ [10] := fun i => by unfold lnI; rw [List.nil_append]
  simp only [e]
  by_cases h2 : h.kind = 2 <;> by_cases h0 : h.met = 0
  all_goals
    simp only [h2, h0, if_true, if_false, List.append_nil, List.flatMap_append, List.flatMap_cons, List.flatMap_nil, lineH_list, List.append_assoc]
    simp [hkey, itemV, h2, h0]
theorem fold_addS : ∀ (L : List Nat) (S : Nat → Bool), L.foldl addS S = fun j => S j || decide (j ∈ L)
  | [], S => by funext j; simp
  | i :: L, S => by
    rw [List.foldl_cons, fold_addS L (addS S i)]
    funext j
    unfold addS
    by_cases h : j = i <;> simp [h]
theorem run_items {g : List UInt8} {h : Hd} (hm : MayF h) (hg : ∀ x ∈ g, blk x = true) : ∀ (L : List Nat) (S : Nat → Bool), (∀ i ∈ L, i ≤ 5 ∧ hasI h i = true) → L.Nodup → (∀ i ∈ L, S i = false) → runA (txtI g h L) (Pst h S) = .inr (Pst h (L.foldl addS S), none)
  | [], S, _, _, _ => runA_nil _
  | i :: L, S, h1, h2, h3 => by
    have e : txtI g h (i :: L) = (lnI g h i ++ [10]) ++ txtI g h L := rfl
    have hi := h1 i (by simp)
    rw [e, runA_cat (.inr ⟨_, rfl⟩), run_item hm hi.1 hi.2 hg, if_neg (by rw [h3 i (by simp)]; decide)]
    show shiftX _ (runA (txtI g h L) (Pst h (addS S i))) = _
    have hn := List.nodup_cons.1 h2
    rw [run_items hm hg L (addS S i) (fun j hj => h1 j (by simp [hj])) hn.2 (fun j hj => by
      unfold addS
      rw [h3 j (by simp [hj]), decide_eq_false (fun e => hn.1 (by rw [← e]; exact hj))]; rfl)]
    rfl
/-- All lines: the head. -/
theorem full_head {h : Hd} (hm : MayF h) {S : Nat → Bool} (hS : ∀ j, j ≤ 5 → S j = hasI h j) : hdOf S h = h ∧ lackE (Pst h S) = false := by
  have e0 := hS 0 (by omega); have e1 := hS 1 (by omega); have e2 := hS 2 (by omega); have e3 := hS 3 (by omega); have e4 := hS 4 (by omega); have e5 := hS 5 (by omega)
  have hd : hdOf S h = h := by
    unfold hdOf
    rw [e0, e1, e2, e3, e4, e5]
    obtain ⟨n, k, d, c, m, l⟩ := h
    simp only [hasI, if_true, decide_eq_true_eq]
    have hk := hm.kind
    have hl := hm.lay
    simp only at hk hl
    congr 1
    · by_cases h2 : k = 2
      · rw [if_pos h2]
      · rw [if_neg h2]; omega
    · by_cases h0 : m = 0
      · rw [if_pos h0]
      · rw [if_neg h0]; omega
  refine ⟨hd, ?_⟩
  unfold lackE Pst
  simp only
  rw [hd, e0, e1, e2, e3, e4, e5]
  simp [hasI]
/-- All lines but one: something lacks. -/
theorem lack_head {h : Hd} {S : Nat → Bool} {x : Nat} (hx : x ≤ 5) (hh : hasI h x = true) (hS : ∀ j, j ≤ 5 → S j = (hasI h j && !decide (j = x))) : lackE (Pst h S) = true := by
  have e0 := hS 0 (by omega); have e1 := hS 1 (by omega); have e2 := hS 2 (by omega); have e3 := hS 3 (by omega); have e4 := hS 4 (by omega); have e5 := hS 5 (by omega)
  unfold lackE Pst hdOf
  simp only
  rw [e0, e1, e2, e3, e4, e5]
  rcases (show x = 0 ∨ x = 1 ∨ x = 2 ∨ x = 3 ∨ x = 4 ∨ x = 5 by omega) with rfl | rfl | rfl | rfl | rfl | rfl <;> simp_all [hasI]
theorem pr0_st (h : Hd) : pr0 = Pst h (fun _ => false) := rfl
theorem items_set {h : Hd} {L : List Nat} (hL : ∀ i, i ∈ L ↔ i ∈ itemsL h) : ∀ j, j ≤ 5 → (fun j => (fun _ => false) j || decide (j ∈ L)) j = hasI h j := fun j hj => by
  simp only [Bool.false_or]
  rw [Bool.eq_iff_iff, decide_eq_true_iff, hL, items_mem]
  exact ⟨fun h => h.2, fun h => ⟨hj, h⟩⟩
/-- The lines of a head, in whatever order, and then another text. -/
theorem parse_items {g : List UInt8} {h : Hd} (hm : MayF h) (hg : ∀ x ∈ g, blk x = true) {L : List Nat} (hL : ∀ i, i ∈ L ↔ i ∈ itemsL h) (hn : L.Nodup) (r : List UInt8) :
    runA (txtI g h L ++ r) pr0 = shiftX (txtI g h L).length (runA r (Pst h (L.foldl addS fun _ => false))) := by
  rw [runA_cat (txtI_ends g h L), pr0_st h, run_items hm hg L _ (fun i hi => items_mem.1 ((hL i).1 hi)) hn (fun _ _ => rfl)]
  rfl
theorem parseE_bs (l : List UInt8) : parseE (bs l) = match runA l pr0 with
    | .inl (a, c) => (hd0, 0, a, c)
    | .inr (p, none) => if lackE p = true then (hd0, 0, l.length, 142) else (p.h, l.length, 0, 0)
    | .inr (p, some e) => if lackE p = true then (hd0, 0, e, 142) else (p.h, e, 0, 0) := by
  rw [parseE_run, bs_list, bs_size]
  all_goals (rcases runA l pr0 with ⟨a, c⟩ | ⟨p, _ | e⟩ <;> rfl)
theorem parse_back {g : List UInt8} {h : Hd} (hm : MayF h) (hg : ∀ x ∈ g, blk x = true) {L : List Nat} (hL : ∀ i, i ∈ L ↔ i ∈ itemsL h) (hn : L.Nodup) (r : List UInt8) (e : Option Nat) (hr : ∀ p, runA r p = .inr (p, e)) :
    parseE (bs (txtI g h L ++ r)) = (h, (match e with | none => (txtI g h L ++ r).length | some e => e + (txtI g h L).length), 0, 0) := by
  rw [parseE_bs, parse_items hm hg hL hn, hr]
  obtain ⟨h1, h2⟩ := full_head hm (S := L.foldl addS fun _ => false) (by rw [fold_addS]; exact items_set hL)
  have h3 : (Pst h (L.foldl addS fun _ => false)).h = h := h1
  cases e with
  | none =>
    show (if lackE (Pst h (L.foldl addS fun _ => false)) = true then _ else _) = _
    rw [h2, if_neg (by decide), h3]
  | some e =>
    show (if lackE (Pst h (L.foldl addS fun _ => false)) = true then _ else _) = _
    rw [h2, if_neg (by decide), h3]
/-- A line of a key alone that ends the head. -/
theorem run_stop_alone {k : ByteArray} (hk : isKey k = true) (he : endB k = true) (r : List UInt8) (p : Pr) : runA (k.data.toList ++ 10 :: r) p = .inr (p, some 0) := by
  have hlow := isKey_low hk
  obtain ⟨hk1, _, hk3⟩ := key_byte hk
  have hne : ∃ x, x ∈ k.data.toList := by
    cases hq : k.data.toList with
    | nil => exact absurd hq (key_bare hk).1
    | cons x l => exact ⟨x, by simp⟩
  obtain ⟨x, hx⟩ := hne
  have ht : k.data.toList.take (lineTo k.data.toList) = k.data.toList := by rw [lineTo_all fun x hx => (hlow x hx).2, List.take_length]
  rw [runA_join, runA_line (fun x hx => (hlow x hx).1) (by rw [ht]; exact blankL_not hx (hk3 x hx).1), ht, rowE_key hk (hkey_alone hk), he]
  rfl
/-- A line of a key, and whatever behind a colon. -/
theorem run_colon {k : ByteArray} (hk : isKey k = true) (v : List UInt8) (hv : ∀ x ∈ v, x ≠ 10) (r : List UInt8) (p : Pr) (hes : endB k = true ∨ endB k = false ∧ (skipB k = true ∨ skipB k = false ∧ hplaceE k < 0)) : runA (k.data.toList ++ [32] ++ 58 :: 32 :: v ++ 10 :: r) p = if endB k = true then .inr (p, some 0) else if skipB k = true then shiftX (k.data.toList.length + 3 + v.length + 1) (runA r p) else .inl (0, 140) := by
  have hlow := isKey_low hk
  obtain ⟨m, hm⟩ : ∃ m, k.data.toList ++ [32] ++ 58 :: 32 :: v = m := ⟨_, rfl⟩
  have hmlow : ∀ x ∈ m, x ≠ 10 := fun x hx => by
    rw [← hm] at hx
    simp only [List.mem_append, List.mem_cons, List.not_mem_nil, or_false] at hx
    rcases hx with (hx | hx) | hx | hx | hx
    · exact (hlow x hx).1
    · subst hx; decide
    · subst hx; decide
    · subst hx; decide
    · exact hv x hx
  have hlen : m.length = k.data.toList.length + 3 + v.length := by rw [← hm]; simp; omega
  obtain ⟨v', hv'⟩ : ∃ v', m.take (lineTo m) = k.data.toList ++ [32] ++ 58 :: 32 :: v' := by
    unfold lineTo
    split
    · rename_i h13
      obtain ⟨_, h13⟩ := h13
      have hvl : v ≠ [] := fun e => by
        rw [← hm, e] at h13
        simp at h13
      refine ⟨v.dropLast, ?_⟩
      have e1 : m.take (m.length - 1) = m.dropLast := by rw [List.dropLast_eq_take]
      rw [e1, ← hm]
      rw [List.dropLast_append_of_ne_nil (by simp), List.dropLast_cons_of_ne_nil (by simp), List.dropLast_cons_of_ne_nil hvl]
    · exact ⟨v, by rw [List.take_length, ← hm]⟩
  have e0 : k.data.toList ++ [32] ++ 58 :: 32 :: v ++ 10 :: r = m ++ 10 :: r := by rw [← hm]
  rw [e0, runA_join, runA_line hmlow (by rw [hv']; exact blankL_not (x := 58) (by simp) colon_ink), hv']
  have hkl := (hkey_line (g := []) (c := [32]) (r := 32 :: v') hk (fun x h => by simp at h) blk_one (m := k.data.toList ++ [32] ++ 58 :: 32 :: v') (by simp)).2
  rw [rowE_key hk hkl, ← hlen]
  rcases hes with h1 | ⟨h1, h2 | ⟨h2, h3⟩⟩
  · rw [h1]; rfl
  · rw [h1, h2]; rfl
  · rw [h1, h2]
    simp only [Bool.false_eq_true, if_false]
    rw [if_pos (.inl h3)]
    rfl
theorem hk_sec : isKey ⟨#[69, 68, 71, 69, 95, 87, 69, 73, 71, 72, 84, 95, 83, 69, 67, 84, 73, 79, 78]⟩ = true ∧ endB ⟨#[69, 68, 71, 69, 95, 87, 69, 73, 71, 72, 84, 95, 83, 69, 67, 84, 73, 79, 78]⟩ = true := by decide +kernel
theorem hk_eof : isKey hkEof = true ∧ endB hkEof = true := by decide +kernel
theorem hk_com : isKey hkCom = true ∧ endB hkCom = false ∧ skipB hkCom = true := by decide +kernel
theorem run_blank (x : UInt8) (hx : blk x = true) (r : List UInt8) (p : Pr) : runA (x :: 10 :: r) p = shiftX 2 (runA r p) := by
  have hb := blk_low hx
  have e : (x :: 10 :: r : List UInt8) = [x] ++ 10 :: r := rfl
  have ht : ([x] : List UInt8).take (lineTo [x]) = [x] := by rw [lineTo_all (m := [x]) fun y hy => by rw [List.mem_singleton.1 hy]; exact hb.2]; rfl
  rw [e, runA_join, runA_blank (fun y hy => by rw [List.mem_singleton.1 hy]; exact hb.1) (by
    rw [ht]
    unfold blankL
    unfold blk at hx
    simp [hx])]
  rfl
end Go.Hdr
