/-
  Plain facts on triangles in a plane: sides, how far corners reach. No program in sight.
-/
import Derived.Test.YtllamakemgogaaaSgPl
import Derived.IntWalk
namespace Go.Proofs.Ytllamakemgogaaa

/-- On which side of the edge from f to t a point p is, as seen from the third point h: 1 the inner one. -/
def eS (f1 f2 t1 t2 h1 h2 p1 p2 : Int) : Int := ordI (ar f1 f2 t1 t2 p1 p2) 0 * ordI (ar f1 f2 t1 t2 h1 h2) 0
theorem ord_bd (a b : Int) : -1 ≤ ordI a b ∧ ordI a b ≤ 1 := by
  rcases ordI_ways a b with ⟨_, e⟩ | ⟨_, e⟩ | ⟨_, e⟩ <;> rw [e] <;> omega
theorem unit_mul {a b : Int} (h : -1 ≤ a ∧ a ≤ 1) (k : -1 ≤ b ∧ b ≤ 1) : -1 ≤ a * b ∧ a * b ≤ 1 := by
  rcases (show a = -1 ∨ a = 0 ∨ a = 1 by omega) with rfl | rfl | rfl <;> simp <;> omega
theorem eS_bd (f1 f2 t1 t2 h1 h2 p1 p2 : Int) : -1 ≤ eS f1 f2 t1 t2 h1 h2 p1 p2 ∧ eS f1 f2 t1 t2 h1 h2 p1 p2 ≤ 1 := unit_mul (ord_bd _ _) (ord_bd _ _)
/-- The greatest of the first n, -1 at least. -/
def mx (s : Nat → Int) : Nat → Int
  | 0 => -1
  | k + 1 => max (mx s k) (s k)
theorem mx_bd {s : Nat → Int} (h : ∀ i, -1 ≤ s i ∧ s i ≤ 1) : ∀ n, -1 ≤ mx s n ∧ mx s n ≤ 1
  | 0 => by simp [mx]
  | n + 1 => by have := mx_bd h n; have := h n; unfold mx; omega
/-- A triangle is right: its points are small and it has an area. -/
def rT (a1 a2 b1 b2 c1 c2 : Int) : Bool := (s2 a1 a2 && s2 b1 b2 && s2 c1 c2) && (ar a1 a2 b1 b2 c1 c2 != 0)
theorem rT_iff {a1 a2 b1 b2 c1 c2 : Int} : rT a1 a2 b1 b2 c1 c2 = true ↔ s2 a1 a2 = true ∧ s2 b1 b2 = true ∧ s2 c1 c2 = true ∧ ar a1 a2 b1 b2 c1 c2 ≠ 0 := by
  unfold rT; simp [Bool.and_eq_true, and_assoc]
/-- How far corners reach into a triangle: the least side that its edges find. -/
def rc (a1 a2 b1 b2 c1 c2 : Int) (F : Nat → Nat → Int) (n : Nat) : Int :=
  min (min (min 1 (mx (fun i => eS a1 a2 b1 b2 c1 c2 (F i 0) (F i 1)) n)) (mx (fun i => eS b1 b2 c1 c2 a1 a2 (F i 0) (F i 1)) n)) (mx (fun i => eS c1 c2 a1 a2 b1 b2 (F i 0) (F i 1)) n)
end Go.Proofs.Ytllamakemgogaaa
