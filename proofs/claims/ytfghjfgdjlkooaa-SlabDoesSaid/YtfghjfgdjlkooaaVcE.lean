/-
  Contracts of package vec: Dot.
-/
import Derived.Test.YtfghjfgdjlkooaaVcD
namespace Go.Proofs.Ytfghjfgdjlkooaa
open Go.RowKit

/-- The sum of the first k products. -/
def dS (a b c d e f : Int) : Nat → Int
  | 0 => 0
  | k + 1 => dS a b c d e f k + pt a b c k * pt d e f k
def dF (t : Bool) (a b c d e f : Int) : Int := if t = true then a * d + b * e + c * f else 0
theorem dS_3 (a b c d e f : Int) : dS a b c d e f 3 = a * d + b * e + c * f := by simp [dS, pt]
theorem pt_near {a b c : Int} (ha : NR a) (hb : NR b) (hc : NR c) (k : Nat) : NR (pt a b c k) := by
  unfold pt; split
  · exact ha
  · split
    · exact hb
    · exact hc
theorem dS_bd {a b c d e f : Int} (ha : NR a) (hb : NR b) (hc : NR c) (hd : NR d) (he : NR e) (hf : NR f) (k : Nat) : -(1099511627776 * (k : Int)) ≤ dS a b c d e f k ∧ dS a b c d e f k ≤ 1099511627776 * (k : Int) := by
  induction k with
  | zero => exact ⟨by show _ ≤ (0 : Int); omega, by show (0 : Int) ≤ _; omega⟩
  | succ k ih =>
    have p := near_prod (pt_near ha hb hc k) (pt_near hd he hf k)
    show _ ≤ dS a b c d e f k + pt a b c k * pt d e f k ∧ dS a b c d e f k + pt a b c k * pt d e f k ≤ _
    omega
theorem pt_at (a b c : Int) {k : Nat} (h : k < 3) : (#[Value.int .i64 a, Value.int .i64 b, Value.int .i64 c] : Array Value)[k]? = some (.int .i64 (pt a b c k)) := by
  rcases show k = 0 ∨ k = 1 ∨ k = 2 by omega with rfl | rfl | rfl <;> rfl

end Go.Proofs.Ytfghjfgdjlkooaa
