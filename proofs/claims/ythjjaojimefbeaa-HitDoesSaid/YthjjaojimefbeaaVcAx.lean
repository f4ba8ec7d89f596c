/-
  The reference limewashref04: under, Axis.
-/
import Derived.Test.YthjjaojimefbeaaVcR
import Derived.Test.YthjjaojimefbeaaVcG
namespace Go.Proofs.Ythjjaojimefbeaa
open Go.RowKit

theorem axF_ref (a b c : Int) : ((axF a b c 3 : Nat) : Int) = if bl a ≤ bl b ∧ bl a ≤ bl c then 0 else if bl b ≤ bl c then 1 else 2 := by
  have e1 : axF a b c 1 = 0 := by
    by_cases s : bl (pt a b c 0) < bl (pt a b c (axF a b c 0))
    · rw [axF_take s]
    · rw [axF_keep s]; rfl
  have p0 : pt a b c 0 = a := rfl
  have p1 : pt a b c 1 = b := rfl
  have p2 : pt a b c 2 = c := rfl
  by_cases s : bl b < bl a
  · have e2 : axF a b c 2 = 1 := axF_take (k := 1) (by rw [e1, p1, p0]; exact s)
    by_cases r : bl c < bl b
    · rw [axF_take (k := 2) (by rw [e2, p1, p2]; exact r), if_neg (by omega), if_neg (by omega)]; rfl
    · rw [axF_keep (k := 2) (by rw [e2, p1, p2]; exact r), e2, if_neg (by omega), if_pos (by omega)]; rfl
  · have e2 : axF a b c 2 = 0 := by rw [axF_keep (k := 1) (by rw [e1, p1, p0]; exact s), e1]
    by_cases r : bl c < bl a
    · rw [axF_take (k := 2) (by rw [e2, p0, p2]; exact r), if_neg (by omega), if_neg (by omega)]; rfl
    · rw [axF_keep (k := 2) (by rw [e2, p0, p2]; exact r), e2, if_pos (by omega)]; rfl

end Go.Proofs.Ythjjaojimefbeaa
