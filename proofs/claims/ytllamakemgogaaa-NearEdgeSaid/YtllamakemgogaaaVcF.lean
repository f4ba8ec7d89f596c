/-
  Contracts of package vec: Cross3.
-/
import Derived.Test.YtllamakemgogaaaVcE
namespace Go.Proofs.Ytllamakemgogaaa
open Go.RowKit

/-- Cross3's part along axis k. -/
def cX (a b c d e f : Int) (k : Nat) : Int := dX a b c k * dY d e f k - dY a b c k * dX d e f k
def cV (a b c d e f : Int) (k j : Nat) : Int := if j < k then cX a b c d e f j else 0
def cC (a b c d e f : Int) (k : Nat) : Array Value := #[.int .i64 (cV a b c d e f k 0), .int .i64 (cV a b c d e f k 1), .int .i64 (cV a b c d e f k 2)]
theorem cC_set (a b c d e f : Int) {k : Nat} (h : k < 3) : (cC a b c d e f k).setIfInBounds k (.int .i64 (cX a b c d e f k)) = cC a b c d e f (k + 1) := by
  rcases show k = 0 ∨ k = 1 ∨ k = 2 by omega with rfl | rfl | rfl <;> simp [cC, cV]
theorem cC_at (a b c d e f : Int) {k : Nat} (h : k < 3) : (cC a b c d e f k)[k]? = some (.int .i64 0) := by
  rcases show k = 0 ∨ k = 1 ∨ k = 2 by omega with rfl | rfl | rfl <;> simp [cC, cV]
theorem cC_0 (a b c d e f : Int) : cC a b c d e f 0 = #[.int .i64 0, .int .i64 0, .int .i64 0] := by simp [cC, cV]
theorem cC_3 (a b c d e f : Int) : cC a b c d e f 3 = #[.int .i64 (b * f - c * e), .int .i64 (c * d - a * f), .int .i64 (a * e - b * d)] := by simp [cC, cV, cX, dX, dY, pt]
theorem drop_near {a b c : Int} (ha : NR a) (hb : NR b) (hc : NR c) (k : Nat) : n2 (dX a b c k) (dY a b c k) = true := n2_iff.2 ⟨pt_near ha hb hc _, pt_near ha hb hc _⟩

end Go.Proofs.Ytllamakemgogaaa
