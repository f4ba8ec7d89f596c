/-
  Contract of package meet: Square. (gen/MtF.py)
-/
import Derived.Test.YtllamakemgogaaaMtE
namespace Go.Proofs.Ytllamakemgogaaa
open Go.RowKit

/-- The square from x y, s long, is one of small points. -/
def sqS (x y s : Int) : Bool := decide (1 ≤ s) && decide (s ≤ 4096) && s2 x y && s2 (x + s) (y + s)
def sqE (u t : Bool) : Int := if u = true then (if t = true then 0 else 1) else 5
def sqV (x y s a1 a2 b1 b2 c1 c2 : Int) : Bool := sqS x y s && rT a1 a2 b1 b2 c1 c2 && cB x y (x + s) (y + s) a1 a2 b1 b2 c1 c2 && (r4 a1 a2 b1 b2 c1 c2 x y (x + s) y (x + s) (y + s) x (y + s) != -1)
theorem sqS_iff {x y s : Int} : sqS x y s = true ↔ 1 ≤ s ∧ s ≤ 4096 ∧ s2 x y = true ∧ s2 (x + s) (y + s) = true := by
  unfold sqS; simp [Bool.and_eq_true, and_assoc]
theorem s2_corner {x y fx fy : Int} (h : s2 x y = true) (k : s2 fx fy = true) : s2 fx y = true ∧ s2 x fy = true := by
  obtain ⟨a, b⟩ := s2_iff.1 h
  obtain ⟨c, d⟩ := s2_iff.1 k
  exact ⟨s2_iff.2 ⟨c, b⟩, s2_iff.2 ⟨a, d⟩⟩
theorem sq_off {x y s : Int} (t : Bool) (h : sqS x y s = false) (a1 a2 b1 b2 c1 c2 : Int) : sqV x y s a1 a2 b1 b2 c1 c2 = false ∧ sqE (sqS x y s) t = 5 := by
  unfold sqV sqE; rw [h]; exact ⟨rfl, rfl⟩
end Go.Proofs.Ytllamakemgogaaa
