/-
  Meshes: when one is right. No program.
-/
import Derived.Test.YtkheomaihhcokaaVcPl
namespace Go.Proofs.Ytkheomaihhcokaa

/-- A place, and a place or none. -/
def plB (p m : Int) : Bool := decide (0 ≤ p ∧ p < m)
def pnB (p m : Int) : Bool := decide (-1 ≤ p ∧ p < m)
theorem plB_iff {p m : Int} : plB p m = true ↔ 0 ≤ p ∧ p < m := decide_eq_true_iff
theorem pnB_iff {p m : Int} : pnB p m = true ↔ -1 ≤ p ∧ p < m := decide_eq_true_iff
theorem plB_ge {p m : Int} (h : 0 ≤ p) : plB p m = decide (p < m) := decide_eq_decide.2 ⟨fun q => q.2, fun q => ⟨h, q⟩⟩
theorem plB_no {p m : Int} (h : ¬ 0 ≤ p) : plB p m = false := decide_eq_false (fun q => h q.1)
theorem pnB_none {p m : Int} (h : p = -1) (hm : 0 ≤ m) : pnB p m = true := decide_eq_true (by omega)
theorem pnB_other {p m : Int} (h : ¬ p = -1) : pnB p m = plB p m := decide_eq_decide.2 (by omega)
/-- A corner of a triangle is right. -/
def cnB (n1 n2 n3 : Nat) (v t u t0 u0 : Int) : Bool := plB v n1 && (pnB t n2 && (pnB u n3 && (((t == -1) == (t0 == -1)) && ((u == -1) == (u0 == -1)))))
/-- A triangle is right. -/
def trB (n1 n2 n3 : Nat) (c : Nat → Int) : Bool := allB (fun k => cnB n1 n2 n3 (c (k * 3)) (c (k * 3 + 1)) (c (k * 3 + 2)) (c 1) (c 2)) 3
/-- A mesh is short. -/
def shB (n1 n2 n3 n4 : Nat) : Bool := decide (n1 ≤ 2000 ∧ n2 ≤ 2000 ∧ n3 ≤ 2000) && decide (n4 ≤ 500)
theorem shB_iff {n1 n2 n3 n4 : Nat} : shB n1 n2 n3 n4 = true ↔ (n1 ≤ 2000 ∧ n2 ≤ 2000 ∧ n3 ≤ 2000) ∧ n4 ≤ 500 := by unfold shB; rw [Bool.and_eq_true, decide_eq_true_iff, decide_eq_true_iff]
theorem shB_no {n1 n2 n3 n4 : Nat} (h : ¬ ((n1 ≤ 2000 ∧ n2 ≤ 2000 ∧ n3 ≤ 2000) ∧ n4 ≤ 500)) : shB n1 n2 n3 n4 = false := by
  cases e : shB n1 n2 n3 n4 with
  | false => rfl
  | true => exact absurd (shB_iff.1 e) h
/-- A mesh is right. -/
def msB (n1 n2 n3 n4 : Nat) (FV FT FN FC : Nat → Nat → Int) : Bool := shB n1 n2 n3 n4 && (a3 FV n1 && (a2 FT n2 && (a3 FN n3 && allB (fun i => trB n1 n2 n3 (FC i)) n4)))
theorem beq_kind {a b c : Int} : ((a == c) == (b == c)) = true ↔ (a = c ↔ b = c) := by
  rw [beq_iff_eq, Bool.eq_iff_iff]
  constructor
  · intro h; rwa [beq_iff_eq, beq_iff_eq] at h
  · intro h; rwa [beq_iff_eq, beq_iff_eq]
theorem cnB_iff {n1 n2 n3 : Nat} {v t u t0 u0 : Int} : cnB n1 n2 n3 v t u t0 u0 = true ↔ (0 ≤ v ∧ v < n1) ∧ (-1 ≤ t ∧ t < n2) ∧ (-1 ≤ u ∧ u < n3) ∧ (t = -1 ↔ t0 = -1) ∧ (u = -1 ↔ u0 = -1) := by
  unfold cnB
  rw [Bool.and_eq_true, Bool.and_eq_true, Bool.and_eq_true, Bool.and_eq_true, plB_iff, pnB_iff, pnB_iff, beq_kind, beq_kind]
theorem trB_iff {n1 n2 n3 : Nat} {c : Nat → Int} : trB n1 n2 n3 c = true ↔ ∀ k, k < 3 → cnB n1 n2 n3 (c (k * 3)) (c (k * 3 + 1)) (c (k * 3 + 2)) (c 1) (c 2) = true := allB_iff _ _
end Go.Proofs.Ytkheomaihhcokaa
