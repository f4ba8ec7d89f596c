/-
  Plain facts on near points.
-/
import Derived.Test.YtkheomaihhcokaaBase
namespace Go.Proofs.Ytkheomaihhcokaa

/-- A part that is near. -/
def NR (n : Int) : Prop := -1048576 ≤ n ∧ n ≤ 1048576
instance (n : Int) : Decidable (NR n) := by unfold NR; infer_instance
def nB (n : Int) : Bool := decide (NR n)
def n2 (x y : Int) : Bool := nB x && nB y
def n3 (x y z : Int) : Bool := nB x && nB y && nB z
theorem nB_iff {n : Int} : nB n = true ↔ NR n := by unfold nB; exact decide_eq_true_iff
theorem nB_not {n : Int} : nB n = false ↔ ¬ NR n := by unfold nB; exact decide_eq_false_iff_not
theorem n2_iff {x y : Int} : n2 x y = true ↔ NR x ∧ NR y := by unfold n2; rw [Bool.and_eq_true, nB_iff, nB_iff]
theorem n3_iff {x y z : Int} : n3 x y z = true ↔ NR x ∧ NR y ∧ NR z := by unfold n3; rw [Bool.and_eq_true, Bool.and_eq_true, nB_iff, nB_iff, nB_iff, and_assoc]
/-- Do all of the first n? -/
def allB (P : Nat → Bool) : Nat → Bool
  | 0 => true
  | n + 1 => allB P n && P n
theorem allB_iff (P : Nat → Bool) (n : Nat) : allB P n = true ↔ ∀ i, i < n → P i = true := by
  induction n with
  | zero => exact ⟨fun _ i h => absurd h (Nat.not_lt_zero i), fun _ => rfl⟩
  | succ n ih =>
    show (allB P n && P n) = true ↔ _
    rw [Bool.and_eq_true, ih]
    constructor
    · rintro ⟨h, k⟩ i hi
      by_cases e : i = n
      · rw [e]; exact k
      · exact h i (by omega)
    · exact fun h => ⟨fun i hi => h i (by omega), h n (by omega)⟩
theorem allB_no {P : Nat → Bool} {n k : Nat} (hk : k < n) (h : P k = false) : allB P n = false := by
  cases e : allB P n with
  | false => rfl
  | true => rw [(allB_iff P n).1 e k hk] at h; cases h
theorem allB_yes {P : Nat → Bool} {n : Nat} (h : ∀ i, i < n → P i = true) : allB P n = true := (allB_iff P n).2 h
/-- A row's points. -/
def a2 (F : Nat → Nat → Int) (n : Nat) : Bool := allB (fun i => n2 (F i 0) (F i 1)) n
def a3 (F : Nat → Nat → Int) (n : Nat) : Bool := allB (fun i => n3 (F i 0) (F i 1) (F i 2)) n
/-- A row of points of k parts, out of its ints. -/
def rowOf (k : Nat) (l : List Int) (i j : Nat) : Int := l.getD (i * k + j) 0
/-- Products of parts that are near. -/
theorem near_prod {a b : Int} (ha : NR a) (hb : NR b) : -1099511627776 ≤ a * b ∧ a * b ≤ 1099511627776 := by
  unfold NR at ha hb
  have h := Nat.mul_le_mul (show a.natAbs ≤ 1048576 by omega) (show b.natAbs ≤ 1048576 by omega)
  rw [← Int.natAbs_mul] at h
  omega
end Go.Proofs.Ytkheomaihhcokaa
