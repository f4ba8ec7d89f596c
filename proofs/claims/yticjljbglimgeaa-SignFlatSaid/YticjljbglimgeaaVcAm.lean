/-
  The part that is farthest from 0 is so.
-/
import Derived.Test.YticjljbglimgeaaVcG
namespace Go.Proofs.Yticjljbglimgeaa
open Go.RowKit

theorem axF_most (a b c : Int) (k : Nat) : ∀ i, i < k → bl (pt a b c (axF a b c k)) ≤ bl (pt a b c i) ∧ (i < axF a b c k → bl (pt a b c (axF a b c k)) < bl (pt a b c i)) := by
  induction k with
  | zero => intro i h; omega
  | succ k ih =>
    intro i hi
    have z := axF_lt a b c k
    by_cases s : bl (pt a b c k) < bl (pt a b c (axF a b c k))
    · rw [axF_take s]
      by_cases e : i = k
      · subst e; exact ⟨Int.le_refl _, fun h => absurd h (Nat.lt_irrefl _)⟩
      · have := ih i (by omega)
        exact ⟨by omega, fun _ => by omega⟩
    · rw [axF_keep s]
      by_cases e : i = k
      · subst e; exact ⟨by omega, fun h => by omega⟩
      · exact ih i (by omega)
end Go.Proofs.Yticjljbglimgeaa
