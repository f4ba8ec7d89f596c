/-
  Contracts of package vec: Axis, Less3.
-/
import Derived.Test.YtkheomaihhcokaaGaB
import Derived.Test.YtkheomaihhcokaaCmpI
import Derived.Test.YtkheomaihhcokaaWideR
namespace Go.Proofs.Ytkheomaihhcokaa
open Go.RowKit

def PastV (V W : World) : Prop := Below V.heap.size V W
theorem pastV_stays (V : World) : Stays (PastV V) := fun _ _ h hb => Below.trans h (hb.mono (Below.size h))

/-- A number's other side, or itself, that is not above 0. -/
def bl (n : Int) : Int := -(n.natAbs : Int)
/-- The place of the part that is farthest from 0, of the first k. -/
def axF (a b c : Int) : Nat → Nat
  | 0 => 0
  | k + 1 => if bl (pt a b c k) < bl (pt a b c (axF a b c k)) then k else axF a b c k
theorem axF_lt (a b c : Int) (k : Nat) : axF a b c k ≤ k - 1 := by
  induction k with
  | zero => exact Nat.le_refl _
  | succ k ih => unfold axF; split <;> omega
theorem axF_take {a b c : Int} {k : Nat} (h : bl (pt a b c k) < bl (pt a b c (axF a b c k))) : axF a b c (k + 1) = k := by show (if _ then _ else _) = _; rw [if_pos h]
theorem axF_keep {a b c : Int} {k : Nat} (h : ¬ bl (pt a b c k) < bl (pt a b c (axF a b c k))) : axF a b c (k + 1) = axF a b c k := by show (if _ then _ else _) = _; rw [if_neg h]
def I64 (n : Int) : Prop := -9223372036854775808 ≤ n ∧ n ≤ 9223372036854775807
theorem pt_i64 {a b c : Int} (ha : I64 a) (hb : I64 b) (hc : I64 c) (k : Nat) : I64 (pt a b c k) := by
  unfold pt; split
  · exact ha
  · split
    · exact hb
    · exact hc

end Go.Proofs.Ytkheomaihhcokaa
