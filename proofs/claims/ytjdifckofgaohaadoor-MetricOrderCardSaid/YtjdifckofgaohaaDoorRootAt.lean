/- The quotients of this program at numbers however they are told; what is equal by what it is compared with; what rises. -/
import Derived.Test.YtjdifckofgaohaaDoorRootQuotients
import Derived.Test.YtjdifckofgaohaaDoorRootMore
namespace Go.Proofs
open Go.RowKit Go.Shelf Go.Root

theorem nat_of {n : Int} (h : 0 ≤ n) : ∃ m : Nat, n = (m : Int) := ⟨n.toNat, by omega⟩
theorem Tryd.Near_at (x y : Int) (n d : Nat) (w : World) (hx : x = (n : Int)) (hy : y = (d : Int)) (hn : n ≤ 80000000000000000) (hd : 1 ≤ d) (hd9 : d ≤ 1000000) :
    Calls Tryd.prog 29 #[.int .i64 x, .int .i64 y] w fun e w' => e = .returned (.int .i64 (near n d : Int)) ∧ Below w.heap.size w w' := by
  subst hx; subst hy; exact Tryd.Near_calls n d w hn hd hd9
theorem Tryd.Down_at (x z y : Int) (n m d : Nat) (w : World) (hx : x = (n : Int)) (hz : z = (m : Int)) (hy : y = (d : Int)) (hn : n ≤ 80000000000000000) (hm9 : m ≤ 10) (hd : 1 ≤ d) (hd9 : d ≤ 1000000) :
    Calls Tryd.prog 37 #[.int .i64 x, .int .i64 z, .int .i64 y] w fun e w' => e = .returned (.int .i64 (down n m d : Int)) ∧ Below w.heap.size w w' := by
  subst hx; subst hy; subst hz; exact Tryd.Down_calls n m d w hn hm9 hd hd9
theorem Tryd.Ceil_at (x z y : Int) (n k d : Nat) (w : World) (hx : x = (n : Int)) (hz : z = (k : Int)) (hy : y = (d : Int)) (hn : n ≤ 80000000000000000) (hk : 1 ≤ k) (hk9 : k ≤ 10) (hd : 1 ≤ d) (hd9 : d ≤ 1000000) :
    Calls Tryd.prog 31 #[.int .i64 x, .int .i64 z, .int .i64 y] w fun e w' => e = .returned (.int .i64 (ceil n k d : Int)) ∧ Below w.heap.size w w' := by
  subst hx; subst hy; subst hz; exact Tryd.Ceil_calls n k d w hn hk hk9 hd hd9
/-- Worlds that follow each other, in a row. -/
theorem below_next {n : Nat} {w X Y : World} (h : Below n w X) (k : Below X.heap.size X Y) (hn : n ≤ w.heap.size) : Below n w Y := h.trans (k.mono (Nat.le_trans hn h.size))
end Go.Proofs
