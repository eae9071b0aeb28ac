/- Plain facts: the key and the value of a text that is put together of a key, a colon, a value, and blanks; no program. -/
import Derived.Test.YtlgdhopiifoikaaKey
import Derived.Test.YtlgdhopiifoikaaJoinPlain
namespace Go.Wds
open Go.Proofs
/-- n blanks. -/
def gapL (n : Nat) : List UInt8 := List.replicate n 32
def gapS (n : Nat) : ByteArray := ⟨(gapL n).toArray⟩
theorem gap_step (n : Nat) : gapS n ++ (⟨#[32]⟩ : ByteArray) = gapS (n + 1) := by
  unfold gapS gapL
  rw [ByteArray.mk_append_mk, List.replicate_succ']
theorem gap_size (n : Nat) : (gapS n).size = n := by show (List.toArray _).size = n; simp [gapL]
theorem gap_list (n : Nat) : (gapS n).data.toList = gapL n := by simp [gapS]
theorem gap_get {n j : Nat} {x : UInt8} (h : (gapL n)[j]? = some x) : x = 32 := by
  have := List.mem_of_getElem? h
  exact (List.mem_replicate.1 this).2
theorem gap_len (n : Nat) : (gapL n).length = n := by simp [gapL]

theorem app_list (a b : ByteArray) : (a ++ b).data.toList = a.data.toList ++ b.data.toList := by rw [ByteArray.data_append, Array.toList_append]
theorem bytes_ext {a b : ByteArray} (h : a.data.toList = b.data.toList) : a = b := by
  cases a; cases b
  exact congrArg ByteArray.mk (Array.toList_inj.1 h)
theorem extract_list (s : ByteArray) (p q : Nat) : (s.extract p q).data.toList = tx s.data.toList p q := by
  unfold tx
  simp [ByteArray.data_extract, List.extract_eq_take_drop]

/-- What a key's bytes are: no blanks, no colons. -/
theorem key_byte {k : ByteArray} (h : isKey k = true) : 1 ≤ k.size ∧ k.size ≤ 40 ∧ ∀ x ∈ k.data.toList, blk x = false ∧ colB x = false := by
  unfold isKey fitL at h
  rw [Bool.and_eq_true, Bool.and_eq_true, decide_eq_true_iff, decide_eq_true_iff] at h
  have hl : k.data.toList.length = k.size := by simp
  rw [hl] at h
  refine ⟨h.1.1, h.1.2, fun x hx => ?_⟩
  have h2 := List.all_eq_true.1 (show k.data.toList.all (ofB keyP) = true from h.2) x hx
  unfold ofB at h2
  rw [keyP_eq, decide_eq_true_iff] at h2
  unfold blk colB
  constructor
  · rw [Bool.or_eq_false_iff, beq_eq_false_iff_ne, beq_eq_false_iff_ne]
    constructor
    · intro e; subst e; revert h2; decide
    · intro e; subst e; revert h2; decide
  · rw [beq_eq_false_iff_ne]
    intro e; subst e; revert h2; decide

theorem get_three {a b c : List UInt8} {j : Nat} {x : UInt8} (h : (a ++ b ++ c)[j]? = some x) : (j < a.length ∧ a[j]? = some x) ∨ (a.length ≤ j ∧ j < a.length + b.length ∧ b[j - a.length]? = some x) ∨ (a.length + b.length ≤ j ∧ c[j - (a.length + b.length)]? = some x) := by
  rcases Nat.lt_or_ge j a.length with h1 | h1
  · rw [List.append_assoc, List.getElem?_append_left h1] at h
    exact .inl ⟨h1, h⟩
  · rcases Nat.lt_or_ge j (a.length + b.length) with h2 | h2
    · rw [List.append_assoc, List.getElem?_append_right h1, List.getElem?_append_left (by omega)] at h
      exact .inr (.inl ⟨h1, h2, h⟩)
    · rw [List.getElem?_append_right (by simp; omega)] at h
      simp only [List.length_append] at h
      exact .inr (.inr ⟨h2, h⟩)
theorem get_mid {a b c : List UInt8} {j : Nat} (h1 : a.length ≤ j) (h2 : j < a.length + b.length) : (a ++ b ++ c)[j]? = b[j - a.length]? := by
  rw [List.append_assoc, List.getElem?_append_right h1, List.getElem?_append_left (by omega)]

/-- A part of blanks, of what is trimmed, and of blanks. -/
theorem trim_mid {a k c r : List UInt8} {e : Nat} (ha : ∀ x ∈ a, blk x = true) (hc : ∀ x ∈ c, blk x = true) (hk0 : k ≠ []) (hf : ∀ x, k[0]? = some x → blk x = false) (hl : ∀ x, k[k.length - 1]? = some x → blk x = false) (he : e = a.length + k.length + c.length) :
    IsTrim (a ++ k ++ c ++ r) 0 e a.length (a.length + k.length) := by
  have hkl : 0 < k.length := List.length_pos_iff.2 hk0
  refine ⟨Nat.zero_le _, by omega, by omega, fun j x h1 h2 h3 => ?_, fun j x h1 h2 h3 => ?_, fun h => by omega, fun _ => ⟨fun x hx => ?_, fun x hx => ?_⟩⟩
  · rw [List.append_assoc, List.append_assoc, List.getElem?_append_left h2] at h3
    exact ha x (List.mem_of_getElem? h3)
  · rw [List.getElem?_append_left (by simp; omega), List.getElem?_append_right (by simp; omega)] at h3
    exact hc x (List.mem_of_getElem? h3)
  · rw [List.getElem?_append_left (by simp; omega), get_mid (Nat.le_refl _) (by omega), Nat.sub_self] at hx
    exact hf x hx
  · rw [List.getElem?_append_left (by simp; omega), get_mid (by omega) (by omega), show a.length + k.length - 1 - a.length = k.length - 1 from by omega] at hx
    exact hl x hx
end Go.Wds
namespace Go.Wds
open Go.Proofs
theorem trim_shift {P M : List UInt8} {F T : Nat} (h : IsTrim M 0 M.length F T) : IsTrim (P ++ M) P.length (P ++ M).length (P.length + F) (P.length + T) := by
  obtain ⟨h1, h2, h3, h4, h5, h6, h7⟩ := h
  have e : ∀ j, (P ++ M)[P.length + j]? = M[j]? := fun j => by rw [List.getElem?_append_right (by omega), Nat.add_sub_cancel_left]
  refine ⟨by omega, by omega, by simp; omega, fun j x i1 i2 i3 => ?_, fun j x i1 i2 i3 => ?_, fun i1 => ?_, fun i1 => ⟨fun x i2 => ?_, fun x i2 => ?_⟩⟩
  · have := e (j - P.length)
    rw [show P.length + (j - P.length) = j from by omega] at this
    rw [this] at i3
    exact h4 _ x (by omega) (by omega) i3
  · have := e (j - P.length)
    rw [show P.length + (j - P.length) = j from by omega] at this
    rw [this] at i3
    simp at i2
    exact h5 _ x (by omega) (by omega) i3
  · have := h6 (by omega)
    simp; omega
  · rw [e] at i2
    exact (h7 (by omega)).1 x i2
  · rw [show P.length + T - 1 = P.length + (T - 1) from by omega, e] at i2
    exact (h7 (by omega)).2 x i2
theorem gap_blank (g : Nat) : ∀ x ∈ gapL g, blk x = true := fun x hx => by
  rw [(List.mem_replicate.1 hx).2]; rfl
theorem gap_colon {g : Nat} : ∀ x ∈ gapL g, colB x = false := fun x hx => by
  rw [(List.mem_replicate.1 hx).2]; rfl
theorem trimL_of {l : List UInt8} {a b F T : Nat} (hab : a ≤ b) (hb : b ≤ l.length) (h : IsTrim l a b F T) : trimL l a b = (F, T) := by
  obtain ⟨h1, h2⟩ := trim_unique hb (is_trim hab hb) h
  exact Prod.ext h1 h2

/-- No blank at the ends. -/
def Bare (l : List UInt8) : Prop := (∀ x, l[0]? = some x → blk x = false) ∧ ∀ x, l[l.length - 1]? = some x → blk x = false
theorem bare_of {l : List UInt8} (h : trimL l 0 l.length = (0, l.length)) : Bare l := by
  have ht := is_trim (l := l) (Nat.zero_le _) (Nat.le_refl _)
  rw [h] at ht
  obtain ⟨h1, h2, h3, h4, h5, h6, h7⟩ := ht
  by_cases e : 0 < l.length
  · exact h7 e
  · refine ⟨fun x hx => ?_, fun x hx => ?_⟩
    · have := (List.getElem?_eq_some_iff.1 hx).1; omega
    · have := (List.getElem?_eq_some_iff.1 hx).1; omega

theorem key_bare {k : ByteArray} (h : isKey k = true) : k.data.toList ≠ [] ∧ Bare k.data.toList := by
  obtain ⟨h1, h2, h3⟩ := key_byte h
  have hl : k.data.toList.length = k.size := by simp
  exact ⟨fun e => by rw [e] at hl; simp at hl; omega, fun x hx => (h3 x (List.mem_of_getElem? hx)).1, fun x hx => (h3 x (List.mem_of_getElem? hx)).1⟩

/-- A key alone, and blanks. -/
theorem pair_alone {k : ByteArray} (hk : isKey k = true) (g : Nat) : KeyIs (k ++ gapS g) 0 (((k ++ gapS g).size : Nat) : Int) k (k ++ gapS g).size (k ++ gapS g).size true := by
  have hls : (k ++ gapS g).data.toList = [] ++ k.data.toList ++ gapL g ++ [] := by rw [app_list, gap_list]; simp
  have hll : (k ++ gapS g).data.toList.length = (k ++ gapS g).size := by simp
  have hkl : k.data.toList.length = k.size := by simp
  obtain ⟨hk0, hkf, hkl2⟩ := key_bare hk
  obtain ⟨_, _, hkb⟩ := key_byte hk
  have hsz : (k ++ gapS g).size = k.size + g := by rw [ByteArray.size_append, gap_size]
  have hc : seekL colB (k ++ gapS g).data.toList 0 (k ++ gapS g).size = (k ++ gapS g).size := by
    refine seek_eq (Nat.zero_le _) (Nat.le_refl _) (fun j c _ _ h => ?_) (fun h => by omega)
    have hm := List.mem_of_getElem? h
    rw [app_list, gap_list, List.mem_append] at hm
    rcases hm with hm | hm
    · exact (hkb c hm).2
    · exact gap_colon c hm
  have ht := trim_mid (a := []) (k := k.data.toList) (c := gapL g) (r := []) (e := (k ++ gapS g).size) (by simp) (gap_blank g) hk0 hkf hkl2 (by rw [gap_len, hkl, hsz]; simp)
  rw [← hls] at ht
  have htr := trimL_of (Nat.zero_le _) (by rw [hll]; exact Nat.le_refl _) ht
  have hkey : keyPart (k ++ gapS g) 0 (k ++ gapS g).size = k := by
    unfold keyPart
    rw [hc, htr]
    apply bytes_ext
    rw [extract_list, hls]
    have := tx_mid [] k.data.toList (gapL g)
    simpa using this
  have := KeyIs.alone (s := k ++ gapS g) 0 (k ++ gapS g).size (Nat.zero_le _) (Nat.le_refl _) (by rw [hkey]; exact hk) hc
  rwa [hkey] at this

/-- The text of a key, a colon and a value, and blanks. -/
def pairS (k v : ByteArray) (g : Nat) : ByteArray := gapS g ++ k ++ gapS g ++ (⟨#[58]⟩ : ByteArray) ++ gapS g ++ v ++ gapS g
theorem pair_both {k v : ByteArray} (hk : isKey k = true) (hv : Bare v.data.toList) (g : Nat) :
    ∃ i j, KeyIs (pairS k v g) 0 (((pairS k v g).size : Nat) : Int) k i j true ∧ i ≤ j ∧ j ≤ (pairS k v g).size ∧ (pairS k v g).extract i j = v := by
  have hkl : k.data.toList.length = k.size := by simp
  obtain ⟨hk0, hkf, hkl2⟩ := key_bare hk
  obtain ⟨_, _, hkb⟩ := key_byte hk
  obtain ⟨S, hS⟩ : ∃ S, pairS k v g = S := ⟨_, rfl⟩
  rw [hS]
  have hls : S.data.toList = (gapL g ++ k.data.toList ++ gapL g ++ [58]) ++ (gapL g ++ v.data.toList ++ gapL g) := by
    rw [← hS]; unfold pairS
    simp only [app_list, gap_list, List.append_assoc]
  have hll : S.data.toList.length = S.size := by simp
  have hlen : S.size = (g + k.size + g + 1) + (g + v.data.toList.length + g) := by
    rw [← hll, hls]; simp only [List.length_append, gap_len, hkl, List.length_cons, List.length_nil]
  have hc58 : S.data.toList[g + k.size + g]? = some 58 := by
    rw [hls, List.getElem?_append_left (by simp only [List.length_append, gap_len, hkl, List.length_cons, List.length_nil]; omega), List.getElem?_append_right (by simp only [List.length_append, gap_len, hkl]; omega)]
    simp only [List.length_append, gap_len, hkl, Nat.sub_self]
    rfl
  have hc : seekL colB S.data.toList 0 S.size = g + k.size + g := by
    refine seek_eq (Nat.zero_le _) (by omega) (fun j c _ h1 h => ?_) (fun _ => ⟨58, hc58, rfl⟩)
    rw [hls, List.getElem?_append_left (by simp only [List.length_append, gap_len, hkl, List.length_cons, List.length_nil]; omega), List.getElem?_append_left (by simp only [List.length_append, gap_len, hkl]; omega)] at h
    have hm := List.mem_of_getElem? h
    rw [List.mem_append, List.mem_append] at hm
    rcases hm with (hm | hm) | hm
    · exact gap_colon c hm
    · exact (hkb c hm).2
    · exact gap_colon c hm
  have ht := trim_mid (a := gapL g) (k := k.data.toList) (c := gapL g) (r := [58] ++ (gapL g ++ v.data.toList ++ gapL g)) (e := g + k.size + g) (gap_blank g) (gap_blank g) hk0 hkf hkl2 (by rw [gap_len, hkl])
  rw [← List.append_assoc, ← hls, gap_len, hkl] at ht
  have htr := trimL_of (Nat.zero_le _) (by rw [hll]; omega) ht
  have hkey : keyPart S 0 S.size = k := by
    unfold keyPart
    rw [hc, htr]
    apply bytes_ext
    rw [extract_list, hls]
    have := tx_mid (gapL g) k.data.toList (gapL g ++ [58] ++ (gapL g ++ v.data.toList ++ gapL g))
    rw [gap_len, hkl] at this
    refine Eq.trans ?_ this
    simp only [List.append_assoc]
  have hb := KeyIs.both (s := S) 0 S.size (Nat.zero_le _) (Nat.le_refl _) (by rw [hkey]; exact hk) (by rw [hc]; omega)
  rw [hkey, hc] at hb
  have hPl : (gapL g ++ k.data.toList ++ gapL g ++ [58]).length = g + k.size + g + 1 := by simp only [List.length_append, gap_len, hkl, List.length_cons, List.length_nil]
  have hM : IsTrim (gapL g ++ v.data.toList ++ gapL g) 0 (gapL g ++ v.data.toList ++ gapL g).length (if v.data.toList = [] then g + g else g) (if v.data.toList = [] then g + g else g + v.data.toList.length) := by
    by_cases h0 : v.data.toList = []
    · rw [if_pos h0, if_pos h0, h0, List.append_nil]
      refine ⟨Nat.zero_le _, Nat.le_refl _, by simp only [List.length_append, gap_len]; exact Nat.le_refl _, fun j x _ _ h => ?_, fun j x h1 h2 h => ?_, fun _ => by simp only [List.length_append, gap_len], fun h => by omega⟩
      · have hm := List.mem_of_getElem? h
        rw [List.mem_append] at hm
        rcases hm with hm | hm <;> exact gap_blank g x hm
      · simp only [List.length_append, gap_len] at h2; omega
    · rw [if_neg h0, if_neg h0]
      have := trim_mid (a := gapL g) (k := v.data.toList) (c := gapL g) (r := []) (e := (gapL g ++ v.data.toList ++ gapL g).length) (gap_blank g) (gap_blank g) h0 hv.1 hv.2 (by simp only [List.length_append])
      rw [List.append_nil, gap_len] at this
      exact this
  have hM2 := trim_shift (P := gapL g ++ k.data.toList ++ gapL g ++ [58]) hM
  rw [← hls, hPl, hll] at hM2
  have htr2 := trimL_of (by omega) (by rw [hll]; exact Nat.le_refl _) hM2
  rw [htr2] at hb
  refine ⟨_, _, hb, hM2.2.1, hM2.2.2.1, ?_⟩
  apply bytes_ext
  rw [extract_list]
  by_cases h0 : v.data.toList = []
  · rw [if_pos h0, if_pos h0, h0]
    unfold tx
    rw [Nat.sub_self, List.take_zero]
  · rw [if_neg h0, if_neg h0, hls]
    have := tx_mid ((gapL g ++ k.data.toList ++ gapL g ++ [58]) ++ gapL g) v.data.toList (gapL g)
    rw [List.length_append, hPl, gap_len] at this
    refine Eq.trans ?_ this
    simp only [List.append_assoc, Nat.add_assoc]
end Go.Wds
