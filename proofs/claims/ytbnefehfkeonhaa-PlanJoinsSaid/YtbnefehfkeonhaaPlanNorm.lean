/- plan.Norm of the program. Conditions: at most two million routes; routes of at most two million stops. -/
import Derived.Test.YtbnefehfkeonhaaPlanVals
import Derived.Test.YtbnefehfkeonhaaSeqX
namespace Go.Proofs
open Go.RowKit Go.Plans
attribute [local go_sem] Oper.semAt_some
theorem owns_later {W W' : World} {base : Nat} {e : TypeId} {size : Nat} {v : Value} {k : Nat} {xs : List Value} (h : W.ownsRow base e size v k xs) (hb : Below W.heap.size W W') : W'.ownsRow base e size v k xs :=
  h.kept (hb.grownBy (Nat.le_refl _)) (by cases hv : v.ownBlock <;> simp)
set_option maxRecDepth 100000 in
set_option maxHeartbeats 2000000 in
theorem Try.Norm_calls (v : Value) (rr : Rts) (w : World) (hl : rr.length ≤ 2000000) (hls : ∀ l ∈ rr, l.length ≤ 2000000) (hv : HasRts w v rr) :
    Calls Try.prog 14 #[planV v] w fun e w' => ∃ u, e = .returned (planV u) ∧ HasRts w' u (normR rr) ∧ Below w.heap.size w w' := by
  have HV := Lib.hid hv
  obtain ⟨ao, cap, rfl⟩ := hv.len
  obtain ⟨n, hn⟩ : ∃ n, rr.length = n := ⟨_, rfl⟩
  rw [hn] at hl HV ⊢
  have HM := Lib.hid hls
  have HN := Lib.hid hn
  obtain ⟨i0, hi, hz0, hz1, hz2⟩ := info_parts Try.info42
  have HI := Lib.hid hi
  clear hi
  have hb0 := ((Below.refl _ w).alloc (Nat.le_refl _) (.cells #[.slice ao n cap] 24)).alloc (by simp) (.cells #[.slice none 0 0] 24)
  have B0 : Boxed ((w.alloc (.cells #[.slice ao n cap] 24)).alloc (.cells #[.slice none 0 0] 24)) (w.heap.size + 1) 24 (.slice none 0 0) := Boxed.at 24 _ (by simp)
  have O0 : ((w.alloc (.cells #[.slice ao n cap] 24)).alloc (.cells #[.slice none 0 0] 24)).ownsRow (w.heap.size + 2) 42 1 (.slice none 0 0) 0 [] := ⟨by simp, .inl ⟨rfl, rfl⟩⟩
  clear hv hn hls
  unfold planV
  go_enter Try.func14, Try.ntmps14
  go_wp2
  go_loopw [3, 9] (fun u i wr => ∃ k : Nat, k ≤ n ∧ i = .int .i64 (k : Int) ∧ (∃ us, wr.ownsRow (w.heap.size + 2) 42 1 u (normR (rr.take k)).length us ∧ ValsR wr us (normR (rr.take k))) ∧ Boxed wr (w.heap.size + 1) 24 (.slice none 0 0) ∧ Below w.heap.size w wr) (fun _ i _ => n - (intOf i).toNat)
  case atStart => exact ⟨0, Nat.zero_le _, rfl, ⟨[], by simpa [normR] using O0, by simpa [normR] using ValsR.nil _⟩, B0, hb0⟩
  case round =>
    obtain ⟨k, hk, rfl, ⟨us, hO, hU⟩, hB, hW⟩ := hrel
    have hsz : w.heap.size + 2 ≤ wr.heap.size := by have := hB.lt; omega
    have HO := Lib.hid hO
    have HU := Lib.hid hU
    have HB := Lib.hid hB
    have HW := Lib.hid hW
    clear B0 hb0 O0 hO hU hB hW
    by_cases hlt : k < n
    · obtain ⟨l, hp⟩ : ∃ l, rr[k]? = some l := ⟨_, List.getElem?_eq_getElem (by have := HN.out; omega)⟩
      have hll := HM.out l (List.mem_of_getElem? hp)
      have htk : rr.take (k + 1) = rr.take k ++ [l] := by rw [List.take_add_one, hp]; rfl
      obtain ⟨b, off, cp, x, hv, hbB, hbw, hc, hx⟩ := HV.out.get hp (Nat.le_refl _) HW.out
      injection hv with h1 h2 h3
      subst h1
      have hki : (k : Int) < (n : Int) := by omega
      by_cases hz : 0 < l.length
      · have HC := Lib.hid (Try.LClone_calls x l wr hz hll hx)
        have hnr : Hid (normR (rr.take (k + 1)) = normR (rr.take k) ++ [l]) := by unfold Hid; rw [htk, normR_cons_keep hz]
        have hlen : (normR (rr.take k)).length ≤ 2000000 := by
          have h := normR_len (rr.take k)
          rw [List.length_take] at h
          omega
        obtain ⟨ax, cx, rfl⟩ := hx.len
        have hzi : (0 : Int) < (l.length : Int) := by omega
        obtain ⟨M, hMe⟩ : ∃ M, (normR (rr.take k)).length = M := ⟨_, rfl⟩
        rw [hMe] at HO hlen
        have HME := Lib.hid hMe
        have hml : M + 1 ≤ maxLen := by unfold maxLen; omega
        have hml2 : (M + 1) * 24 ≤ 140737488355328 := by omega
        clear hp htk hx h2 h3 hMe
        go_wp2_with (first
          | (go_at_call 25; (with_reducible refine HC.out.mono ?_); rintro e w2 ⟨_, rfl, ⟨gb, gc, rfl, q1, q2, q3, q4⟩, q5, hb2⟩)
          | (at_builtin; refine wpList_append_own _ rfl _ _ 22 rfl (w.heap.size + 2) 42 i0 (.slice none 0 0) 1 24 Try.underlying22 HI.out hz0 hz1 hz2 rfl (by decide) _ _ _ rfl ((owns_later HO.out hb2).alloc _) ⟨w2.heap.size, 0, none⟩ 1 1 [.slice (some ⟨gb, 0, none⟩) l.length gc] rfl rfl (cells_one w2 _ _) (by simp [Value.oneCell']) hml hml2 (by have := hb2.size; simp; omega) ?_; intro v' w1 hown' hgrow _))
        have hg : (w2.alloc (Obj.cells #[Value.slice (some ⟨gb, 0, none⟩) l.length gc] 42)).grownBy w1 u3.ownBlock := hgrow
        have O2 := owns_later HO.out hb2
        have hb4 : Below (w.heap.size + 2) w2 w1 := lgrown_below (Below.refl _ w2) (by have := hb2.size; omega) O2 hg
        have hbw1 : Below w.heap.size w w1 := (HW.out.trans (hb2.mono HW.out.size)).trans (hb4.mono (by omega))
        have hbox : Boxed w1 (w.heap.size + 1) 24 (.slice none 0 0) := (HB.out.below hb2 (by omega)).below hb4 (by omega)
        have hva := ValsR.next (HU.out.next hb2) ((Below.refl _ w2).alloc (Nat.le_refl _) (.cells #[.slice (some ⟨gb, 0, none⟩) l.length gc] 42))
        have hvb := ValsR.grown hva (by rw [HME.out]; exact O2.alloc _) hg
        have hra : RowAt (w2.alloc (Obj.cells #[Value.slice (some ⟨gb, 0, none⟩) l.length gc] 42)) (.slice (some ⟨gb, 0, none⟩) l.length gc) l := RowAt.next ⟨gb, gc, rfl, q1, q2, q3, q4⟩ ((Below.refl _ w2).alloc (Nat.le_refl _) _)
        have hrb := hra.grown hg (fun e => by
          have h1 := (World.ownsRow.lt HO.out gb e.symm).2
          have h2 := q5 gb rfl
          omega)
        refine ⟨⟨k + 1, by omega, by go_num, ⟨us ++ [.slice (some ⟨gb, 0, none⟩) l.length gc], ?_, ?_⟩, hbox, hbw1⟩, by simp [intOf]; omega⟩
        · rw [hnr.out, List.length_append, HME.out]; exact hown'
        · rw [hnr.out]; exact hvb.snoc hrb
      · have hl0 : l = [] := List.eq_nil_of_length_eq_zero (by omega)
        subst hl0
        have hnr : Hid (normR (rr.take (k + 1)) = normR (rr.take k)) := by unfold Hid; rw [htk, normR_cons_drop]
        obtain ⟨ax, cx, rfl⟩ := hx.len
        clear hp htk hx h2 h3
        go_wp2
        exact ⟨⟨k + 1, by omega, by go_num, ⟨us, by rw [hnr.out]; exact HO.out, by rw [hnr.out]; exact HU.out⟩, HB.out, HW.out⟩, by simp [intOf]; omega⟩
    · obtain rfl : k = n := by omega
      have hT : Hid (rr.take k = rr) := by unfold Hid; rw [List.take_of_length_le (by have := HN.out; omega)]
      have hc1 := HB.out.cell
      have hf1 := HB.out.frozen
      have hln := (HO.out.1)
      rw [hT.out] at HO HU
      obtain ⟨ua, uc, rfl⟩ := (rts_of_owns HO.out HU.out).len
      have hrs : HasRts (wr.setCell ⟨w.heap.size + 1, 0, none⟩ (.slice ua (normR rr).length uc)) (.slice ua (normR rr).length uc) (normR rr) :=
        rts_of_owns (us := us) (base := w.heap.size + 2) (HO.out.kept (grownBy_setCell' wr (w.heap.size + 1) _) (.inr fun e => by have := (World.ownsRow.lt HO.out _ e).1; omega)) (HU.out.box hc1 _)
      have HR := Lib.hid hrs
      have bf := Lib.hid (HB.out.set (.slice ua (normR rr).length uc)).cell
      clear hln hrs
      go_wp2
      refine bodyPost_ret (v := .agg #[.slice ua (normR rr).length uc]) (by simp [results, Try.results14, go_sem, bf.out]) rfl ?_
      exact ⟨_, rfl, HR.out, HW.out.setCell (p := ⟨w.heap.size + 1, 0, none⟩) (by simp) _⟩
#print axioms Try.Norm_calls
end Go.Proofs
