/- The landed package of layer 13 answers as the document does. Conditions: none of its own. -/
import Derived.Test.YtiedogcekalfjaaG11
import Derived.Test.YtiedogcekalfjaaLawSheetRowsM
import Derived.Test.YtiedogcekalfjaaLawSheetFlatM
namespace Go.Proofs
open Go.RowKit Go.Shelf Go.Cur Go.Wds Go.Sheet Go.Fx
theorem Try.sheetC : Try.SheetC where
  rows := fun s k0 W hs => Try.pSheetRows_calls s k0 W (by omega)
  title := fun s t k0 p u W hs _ hp hw => Try.pTitle_calls s t p.1 p.2 u W hs (Nat.le_trans (rowsE_words hp) hs) hw
  ints := fun s k0 p n u W hs hp hw => by
    have hl := rowsE_words hp
    by_cases h : (p.2.length : Int) = n
    · have e : intsE s p n = takeW (rdI s) p.2 := by unfold intsE; rw [if_pos h]
      rw [e]
      exact Try.pInts_calls s p.1 p.2 n u W (by omega) (by omega) hw h
    · have e : intsE s p n = ([], p.1, 3) := by unfold intsE; rw [if_neg h]
      rw [e]
      exact (Try.pInts_line s p.1 p.2 n u W hw h).mono fun e w' ⟨h1, h2⟩ => ⟨_, h1, HasInts.nil _, h2⟩
  nums := fun s k0 p n u W hs hp hw => Try.pNums_calls s p.1 p.2 n u W (by omega) (by have := rowsE_words hp; omega) hw
  flat := fun s k0 n u W hs hn hr => Try.pFlat_calls s (rowsE s k0) n u W (by omega) (by have := rowsE_len s k0; omega) (Nat.le_trans (totW_bd (m := 1000) fun p hp => Nat.le_trans (rowsE_words hp) hs) (Nat.le_trans (Nat.mul_le_mul_right 1000 (Nat.le_trans (rowsE_len s k0) (Nat.succ_le_succ hs))) (by decide))) hn hr
  common := fun l u W hl hm hu => Try.pCommon_calls l u W (by omega) hm hu
end Go.Proofs
