/-
  Contracts of package meet: crosses, Square. (gen/MtE.py)
-/
import Derived.Test.YtllamakemgogaaaMtD
namespace Go.Proofs.Ytllamakemgogaaa
open Go.RowKit

theorem max_if (x y : Int) : (if y > x then y else x) = max x y := by
  rw [Int.max_def]
  split <;> split <;> omega
theorem min_if (x y : Int) : (if y < x then y else x) = min x y := by
  rw [Int.min_def]
  split <;> split <;> omega
@[go_sem high] theorem run_max_three {P : Program} (w : World) (ts : Array TypeId) (t : TypeId) (k k' k3 : IntKind) (x y z : Int) :
    (Builtin.max_ ts t #[.int k x, .int k' y, .int k3 z]).run P w = .ok (.int k (max (max x y) z)) w := by
  simp [Builtin.max_, Builtin.max2, max_if]
@[go_sem high] theorem run_min_three {P : Program} (w : World) (ts : Array TypeId) (t : TypeId) (k k' k3 : IntKind) (x y z : Int) :
    (Builtin.min_ ts t #[.int k x, .int k' y, .int k3 z]).run P w = .ok (.int k (min (min x y) z)) w := by
  simp [Builtin.min_, Builtin.min2, min_if]
/-- The rectangle round a triangle meets the one from x y to fx fy. -/
def cB (x y fx fy a1 a2 b1 b2 c1 c2 : Int) : Bool := decide (min (min a1 b1) c1 ≤ fx) && decide (min (min a2 b2) c2 ≤ fy) && decide (x ≤ max (max a1 b1) c1) && decide (y ≤ max (max a2 b2) c2)
end Go.Proofs.Ytllamakemgogaaa
