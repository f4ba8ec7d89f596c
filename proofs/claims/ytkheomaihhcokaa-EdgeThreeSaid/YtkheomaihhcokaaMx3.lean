/-
  The builtins min and max of three ints: one value each.
-/
import Derived.Test.YtkheomaihhcokaaBase
import Derived.Lib.MinMax
namespace Go.Proofs.Ytkheomaihhcokaa
open Go.RowKit

theorem max_if (x y : Int) : (if y > x then y else x) = max x y := by
  rw [Int.max_def]
  split <;> split <;> omega
theorem min_if (x y : Int) : (if y < x then y else x) = min x y := by
  rw [Int.min_def]
  split <;> split <;> omega
@[go_sem high] theorem run_max_three {P : Program} (w : World) (ts : Array TypeId) (t : TypeId) (k k' k3 : IntKind) (x y z : Int) :
    (Builtin.max_ ts t #[.int k x, .int k' y, .int k3 z]).run P w = .ok (.int k (max (max x y) z)) w := by
  simp [Builtin.max_, Builtin.max2, max_if]
@[go_sem high] theorem run_min_three {P : Program} (w : World) (ts : Array TypeId) (t : TypeId) (k k' k3 : IntKind) (x y z : Int) :
    (Builtin.min_ ts t #[.int k x, .int k' y, .int k3 z]).run P w = .ok (.int k (min (min x y) z)) w := by
  simp [Builtin.min_, Builtin.min2, min_if]
end Go.Proofs.Ytkheomaihhcokaa
