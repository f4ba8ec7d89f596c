/-
  Edges of triangles: what is one, and which triangles are next to one another. No program.
-/
import Derived.Test.YtkheomaihhcokaaMsPl
namespace Go.Proofs.Ytkheomaihhcokaa

/-- Two unlike places are those of an edge, in whichever order. -/
def ed3 (x y a b : Int) : Bool := decide (¬ x = y ∧ (x = a ∧ y = b ∨ x = b ∧ y = a))
theorem ed3_yes {x y a b : Int} (h : ¬ x = y) (k : x = a ∧ y = b ∨ x = b ∧ y = a) : ed3 x y a b = true := decide_eq_true ⟨h, k⟩
theorem ed3_no {x y a b : Int} (h : ¬ (¬ x = y ∧ (x = a ∧ y = b ∨ x = b ∧ y = a))) : ed3 x y a b = false := decide_eq_false h
theorem ed3_iff {x y a b : Int} : ed3 x y a b = true ↔ ¬ x = y ∧ (x = a ∧ y = b ∨ x = b ∧ y = a) := decide_eq_true_iff
/-- A triangle has an edge. -/
def hasB (x y z a b : Int) : Bool := ed3 x y a b || (ed3 y z a b || ed3 z x a b)
/-- Two triangles have an edge in common. -/
def nxE (x y z u v w : Int) : Bool := ((x != y) && hasB u v w x y) || (((y != z) && hasB u v w y z) || ((z != x) && hasB u v w z x))
/-- Two unlike places of triangles are next to one another. -/
def nxB (F : Nat → Nat → Int) (i k : Nat) : Bool := (i != k) && nxE (F i 0) (F i 3) (F i 6) (F k 0) (F k 3) (F k 6)
theorem hasB_iff {x y z a b : Int} : hasB x y z a b = true ↔ ed3 x y a b = true ∨ ed3 y z a b = true ∨ ed3 z x a b = true := by
  unfold hasB; rw [Bool.or_eq_true, Bool.or_eq_true]
end Go.Proofs.Ytkheomaihhcokaa
