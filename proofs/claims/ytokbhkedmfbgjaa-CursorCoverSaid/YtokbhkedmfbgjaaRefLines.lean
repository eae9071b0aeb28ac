/- The document's own Lines of this program, as a contract. Conditions: a text of at most a million bytes. -/
import Derived.Test.YtokbhkedmfbgjaaShown
namespace Go.Cur
theorem takeWhile_all {α : Type} {p : α → Bool} {l r : List α} (h : ∀ x ∈ l, p x = true) : (l ++ r).takeWhile p = l ++ r.takeWhile p := by
  induction l with
  | nil => rfl
  | cons x l ih =>
    rw [List.cons_append, List.takeWhile_cons, if_pos (h x (by simp)), ih (fun y hy => h y (by simp [hy]))]; rfl
theorem lines_split {l : List UInt8} {d : List (Nat × Nat)} {a : Nat} (h : spans l = d ++ [(a, l.length)]) (hd : ∀ p ∈ d, p.1 < l.length) : lines l = d.map (lineAt l) ++ if a = l.length then [] else [(a, l.length, l.length)] := by
  unfold lines
  rw [h, takeWhile_all (fun p hp => by have := hd p hp; simp; omega), List.map_append]
  congr 1
  by_cases ha : a = l.length
  · simp [ha]
  · have hb : (a != l.length) = true := by rw [bne_iff_ne]; exact ha
    simp [List.takeWhile, ha, hb, lineAt]
theorem split_len {l : List UInt8} {d r : List (Nat × Nat)} (h : spans l = d ++ r) : d.length ≤ l.length + 1 := by
  have h1 := spans_len l 0 0
  have h2 : (spans l).length = d.length + r.length := by rw [h, List.length_append]
  simp only [spans] at h2
  omega
end Go.Cur
namespace Go.Proofs
open Go.RowKit Go.Shelf Go.Cur

theorem Try.info33 : (Try.prog.info? 33).map (fun i => (i.zero, i.size, i.bytes)) = some (some (.agg #[.int .i64 0, .int .i64 0, .int .i64 0]), 3, 24) := by kernel_rfl
theorem owns_empty (w : World) (e : TypeId) : (w.alloc (.cells #[] e)).ownsRow w.heap.size e 3 (.slice (some ⟨w.heap.size, 0, none⟩) 0 0) 0 [] :=
  ⟨rfl, .inr ⟨w.heap.size, 0, #[], rfl, Nat.le_refl _, World.alloc_heap_new w _, Nat.le_refl _, Nat.zero_le _, rfl, rfl⟩⟩

theorem grown_below {n₀ : Nat} {w wr w1 : World} {tmp : Obj} {v : Value} {e : TypeId} {size k : Nat} {xs : List Value} (hB : Below n₀ w wr) (hn : n₀ ≤ wr.heap.size) (hown : wr.ownsRow n₀ e size v k xs) (hgrow : (wr.alloc tmp).grownBy w1 v.ownBlock) : Below n₀ w w1 :=
  (hB.alloc hn tmp).grown hgrow (by simp; omega) (fun j e => (hown.lt j e).1)

set_option maxRecDepth 100000 in
set_option maxHeartbeats 2000000 in
theorem Try.rLines_calls (s : ByteArray) (w : World) (hs : s.size ≤ 1000000) :
    Calls Try.prog 11 #[.string s] w fun e w' => ∃ v, e = .returned v ∧ w'.ownsRow w.heap.size 33 3 v (lines s.data.toList).length (lineCells (lines s.data.toList)) ∧ Below w.heap.size w w' := by
  obtain ⟨i0, hi, hz0, hz1, hz2⟩ := info_parts Try.info33
  have hl : s.data.toList.length = s.size := by simp
  have HL := Lib.hid hl
  clear hl
  go_enter Try.func11, Try.ntmps11
  go_wp2
  go_loopw [3, 4, 5] (fun v f i wr => ∃ (k a : Nat) (d : List (Nat × Nat)), wr.ownsRow w.heap.size 33 3 v d.length (lineCells (d.map (lineAt s.data.toList))) ∧ f = .int .i64 (a : Int) ∧ i = .int .i64 (k : Int) ∧ k ≤ s.size ∧ a ≤ k ∧ spans s.data.toList = d ++ spansFrom (s.data.toList.drop k) k a ∧ (∀ p ∈ d, p.1 < s.size) ∧ Below w.heap.size w wr)
    (fun _ _ i _ => s.size - (intOf i).toNat)
  case atStart =>
    exact ⟨0, 0, [], owns_empty w 33, rfl, rfl, Nat.zero_le _, Nat.le_refl _, rfl, (fun p hp => by cases hp), (Below.refl _ w).alloc (Nat.le_refl _) _⟩
  case round =>
    obtain ⟨k, a, d, hown, rfl, rfl, hk, hak, hsp, hd, hB⟩ := hrel
    have hdl := split_len hsp
    rw [HL.out] at hdl
    have hml : d.length + 1 ≤ maxLen := by unfold maxLen; omega
    have hml2 : (d.length + 1) * 24 ≤ 140737488355328 := by omega
    have hB1 : w.heap.size ≤ wr.heap.size := hB.size
    by_cases hlt : k < s.size
    · by_cases hb : s[k]'hlt = 10
      · have hbb : (((s[k]'hlt).toNat : Int) != 10) = false := by rw [hb]; rfl
        have hg := list_get s k hlt
        rw [hb] at hg
        rw [spans_feed _ _ _ hg] at hsp
        have hsp2 : spans s.data.toList = (d ++ [(a, k)]) ++ spansFrom (s.data.toList.drop (k + 1)) (k + 1) (k + 1) := by rw [hsp, List.append_assoc]; rfl
        have hd2 : ∀ p ∈ d ++ [(a, k)], p.1 < s.size := fun p hp => by
          rcases List.mem_append.1 hp with h | h
          · exact hd p h
          · simp at h; subst h; simp only; omega
        have HS := Lib.hid hsp2
        have HD := Lib.hid hd2
        have hne : ¬ k = s.size := by omega
        by_cases h13 : a < k ∧ s.get! (k - 1) = 13
        · have hka : decide ((a : Int) < (k : Int)) = true := decide_eq_true (by omega)
          have hka2 : decide (a < k) = true := decide_eq_true h13.1
          have hk1 : k - 1 < s.size := by omega
          have hb1 : 0 ≤ (k : Int) - 1 := by omega
          have hb2 : ((k : Int) - 1).toNat = k - 1 := by omega
          have hg1 := get_of s (k - 1) hk1
          rw [h13.2] at hg1
          have hc13 : (((s[k - 1]'hk1).toNat : Int) == 13) = true := by rw [← hg1]; rfl
          have hla : lineAt s.data.toList (a, k) = (a, k - 1, k + 1) := by
            simp only [lineAt]; rw [if_neg (by rw [HL.out]; exact hne), list_get s (k - 1) hk1, ← hg1, if_pos ⟨h13.1, rfl⟩]
          have hcells : lineCells ((d ++ [(a, k)]).map (lineAt s.data.toList)) = lineCells (d.map (lineAt s.data.toList)) ++ [.int .i64 (a : Nat), .int .i64 ((k : Int) - 1), .int .i64 ((k : Int) + 1)] := by
            rw [List.map_append, List.map_cons, List.map_nil, hla, lineCells_snoc]
            congr 1
            rw [show ((k - 1 : Nat) : Int) = (k : Int) - 1 from by omega]; rfl
          have HC := Lib.hid hcells
          have HI := Lib.hid hi
          clear hsp hsp2 hd hd2 hg hb hla hcells hg1 h13 hne hi hdl
          go_wp2_with (at_builtin; refine wpList_append_own _ rfl _ _ 25 rfl w.heap.size 33 i0 (.agg #[.int .i64 0, .int .i64 0, .int .i64 0]) 3 24 Try.underlying25 HI.out hz0 hz1 hz2 rfl (by decide) _ _ _ rfl (hown.alloc _) ⟨wr.heap.size, 0, none⟩ 1 1 [.int .i64 (a : Nat), .int .i64 ((k : Int) - 1), .int .i64 ((k : Int) + 1)] rfl rfl (cells_new wr #[.int .i64 (a : Nat), .int .i64 ((k : Int) - 1), .int .i64 ((k : Int) + 1)] 33) (by simp [Value.oneCell']) hml hml2 (by simp; omega) ?_; intro v' w1 hown' hgrow _)
          go_roundw
          case rel => exact ⟨k + 1, k + 1, d ++ [(a, k)], by rw [List.length_append, HC.out]; exact hown', by go_num, by go_num, by omega, Nat.le_refl _, HS.out, HD.out, grown_below hB hB1 hown hgrow⟩
          case measure => simp [intOf]; omega
        · have hla : lineAt s.data.toList (a, k) = (a, k, k + 1) := by
            simp only [lineAt]
            rw [if_neg (by rw [HL.out]; exact hne), if_neg]
            rintro ⟨q1, q2⟩
            rw [list_get s (k - 1) (by omega)] at q2
            exact h13 ⟨q1, by rw [get_of s (k - 1) (by omega)]; exact Option.some.inj q2⟩
          have hcells : lineCells ((d ++ [(a, k)]).map (lineAt s.data.toList)) = lineCells (d.map (lineAt s.data.toList)) ++ [.int .i64 (a : Nat), .int .i64 (k : Int), .int .i64 ((k : Int) + 1)] := by
            rw [List.map_append, List.map_cons, List.map_nil, hla, lineCells_snoc]; rfl
          have HC := Lib.hid hcells
          have HI := Lib.hid hi
          by_cases hka0 : a < k
          · have hka : decide ((a : Int) < (k : Int)) = true := decide_eq_true (by omega)
            have hka2 : decide (a < k) = true := decide_eq_true hka0
            have hk1 : k - 1 < s.size := by omega
            have hb1 : 0 ≤ (k : Int) - 1 := by omega
            have hb2 : ((k : Int) - 1).toNat = k - 1 := by omega
            have hc13 : (((s[k - 1]'hk1).toNat : Int) == 13) = false := by
              rw [beq_eq_false_iff_ne]
              intro e
              exact h13 ⟨hka0, by
                rw [get_of s (k - 1) hk1]
                exact UInt8.toNat_inj.1 (by have e' : (s[k - 1]'hk1).toNat = 13 := by omega
                                            exact e')⟩
            clear hsp hsp2 hd hd2 hg hb hla hcells h13 hne hi hdl
            go_wp2_with (at_builtin; refine wpList_append_own _ rfl _ _ 25 rfl w.heap.size 33 i0 (.agg #[.int .i64 0, .int .i64 0, .int .i64 0]) 3 24 Try.underlying25 HI.out hz0 hz1 hz2 rfl (by decide) _ _ _ rfl (hown.alloc _) ⟨wr.heap.size, 0, none⟩ 1 1 [.int .i64 (a : Nat), .int .i64 ((k : Int)), .int .i64 ((k : Int) + 1)] rfl rfl (cells_new wr #[.int .i64 (a : Nat), .int .i64 ((k : Int)), .int .i64 ((k : Int) + 1)] 33) (by simp [Value.oneCell']) hml hml2 (by simp; omega) ?_; intro v' w1 hown' hgrow _)
            go_roundw
            case rel => exact ⟨k + 1, k + 1, d ++ [(a, k)], by rw [List.length_append, HC.out]; exact hown', by go_num, by go_num, by omega, Nat.le_refl _, HS.out, HD.out, grown_below hB hB1 hown hgrow⟩
            case measure => simp [intOf]; omega
          · have hka : decide ((a : Int) < (k : Int)) = false := decide_eq_false (by omega)
            have hka2 : decide (a < k) = false := decide_eq_false hka0
            clear hsp hsp2 hd hd2 hg hb hla hcells h13 hne hi hdl
            go_wp2_with (at_builtin; refine wpList_append_own _ rfl _ _ 25 rfl w.heap.size 33 i0 (.agg #[.int .i64 0, .int .i64 0, .int .i64 0]) 3 24 Try.underlying25 HI.out hz0 hz1 hz2 rfl (by decide) _ _ _ rfl (hown.alloc _) ⟨wr.heap.size, 0, none⟩ 1 1 [.int .i64 (a : Nat), .int .i64 ((k : Int)), .int .i64 ((k : Int) + 1)] rfl rfl (cells_new wr #[.int .i64 (a : Nat), .int .i64 ((k : Int)), .int .i64 ((k : Int) + 1)] 33) (by simp [Value.oneCell']) hml hml2 (by simp; omega) ?_; intro v' w1 hown' hgrow _)
            go_roundw
            case rel => exact ⟨k + 1, k + 1, d ++ [(a, k)], by rw [List.length_append, HC.out]; exact hown', by go_num, by go_num, by omega, Nat.le_refl _, HS.out, HD.out, grown_below hB hB1 hown hgrow⟩
            case measure => simp [intOf]; omega
      · have hbb : (((s[k]'hlt).toNat : Int) != 10) = true := by
          rw [bne_iff_ne]
          intro e
          exact hb (UInt8.toNat_inj.1 (by have e' : (s[k]'hlt).toNat = 10 := by omega
                                          exact e'))
        have hsp2 : spans s.data.toList = d ++ spansFrom (s.data.toList.drop (k + 1)) (k + 1) a := by
          rw [hsp, spans_sign _ a 1 k (by rw [HL.out]; omega) (fun j h1 h2 => by
            have e : j = k := by omega
            subst e
            rw [list_get s j hlt]
            intro e
            exact hb (Option.some.inj e))]
        have HS := Lib.hid hsp2
        have HD := Lib.hid hd
        clear hsp hsp2 hd hb
        go_wp2
        go_roundw
        case rel => exact ⟨k + 1, a, d, hown, rfl, by go_num, by omega, by omega, HS.out, HD.out, hB⟩
        case measure => simp [intOf]; omega
    · have hks : k = s.size := by omega
      subst hks
      rw [← HL.out, List.drop_length] at hsp
      have hfin := lines_split (a := a) hsp (by rw [HL.out]; exact hd)
      rw [HL.out] at hfin
      by_cases ha : a = s.size
      · rw [if_pos ha, List.append_nil] at hfin
        have HF := Lib.hid hfin
        have hda : decide (a < s.size) = false := decide_eq_false (by omega)
        have hda2 : decide ((a : Int) < (s.size : Int)) = false := decide_eq_false (by omega)
        clear hsp hd hfin ha
        go_wp2
        go_ret
        refine ⟨_, rfl, ?_, hB⟩
        rw [HF.out, List.length_map]
        exact hown
      · rw [if_neg ha] at hfin
        have hda : decide (a < s.size) = true := decide_eq_true (by omega)
        have hda2 : decide ((a : Int) < (s.size : Int)) = true := decide_eq_true (by omega)
        have HF := Lib.hid hfin
        have HI := Lib.hid hi
        clear hsp hd hfin ha hi hdl
        go_wp2_with (at_builtin; refine wpList_append_own _ rfl _ _ 25 rfl w.heap.size 33 i0 (.agg #[.int .i64 0, .int .i64 0, .int .i64 0]) 3 24 Try.underlying25 HI.out hz0 hz1 hz2 rfl (by decide) _ _ _ rfl (hown.alloc _) ⟨wr.heap.size, 0, none⟩ 1 1 [.int .i64 (a : Nat), .int .i64 (s.size : Nat), .int .i64 (s.size : Nat)] rfl rfl (cells_new wr #[.int .i64 (a : Nat), .int .i64 (s.size : Nat), .int .i64 (s.size : Nat)] 33) (by simp [Value.oneCell']) hml hml2 (by simp; omega) ?_; intro v' w1 hown' hgrow _)
        go_ret
        refine ⟨_, rfl, ?_, grown_below hB hB1 hown hgrow⟩
        rw [HF.out, lineCells_snoc, List.length_append, List.length_map]
        exact hown'
#print axioms Try.rLines_calls
end Go.Proofs
