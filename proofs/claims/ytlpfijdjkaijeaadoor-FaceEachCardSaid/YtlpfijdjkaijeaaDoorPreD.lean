/-
  A numeral's digits, but for the last one.
-/
import Derived.Test.YtlpfijdjkaijeaaDoorScPureB
namespace Go.Proofs.YtlpfijdjkaijeaaDoor
open Go.RowKit

/-- What is left to put ahead of a numeral's last digits. -/
def preD (m : Nat) : List UInt8 := if m < 10 then [] else Lib.decDigits (m / 10)
theorem pre_all (m : Nat) : Lib.decDigits m = preD m ++ [UInt8.ofNat (48 + m % 10)] := by
  unfold preD
  by_cases h : m < 10
  · rw [if_pos h, Lib.decDigits_one h, Nat.mod_eq_of_lt h]; rfl
  · rw [if_neg h, decD_big h]
theorem pre_step (m : Nat) (h : ¬ m < 10) : preD m = preD (m / 10) ++ [UInt8.ofNat (48 + m / 10 % 10)] := by
  rw [← pre_all]; unfold preD; rw [if_neg h]
theorem pre_end (m : Nat) (h : m < 10) : preD m = [] := by unfold preD; rw [if_pos h]
end Go.Proofs.YtlpfijdjkaijeaaDoor
