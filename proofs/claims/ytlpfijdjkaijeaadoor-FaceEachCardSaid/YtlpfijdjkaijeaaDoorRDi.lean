/-
  The reference of layer 5: digit.
-/
import Derived.Test.YtlpfijdjkaijeaaDoorBase
namespace Go.Proofs.YtlpfijdjkaijeaaDoor
open Go.RowKit

theorem rdigit_any (r : Int) (w : World) :
    Calls Tryd.prog 34 #[.int .u8 r] w fun e w' => e = .returned (.bool (decide (48 ≤ r ∧ r ≤ 57))) ∧ Below w.heap.size w w' := by
  go_enter Tryd.func34, Tryd.ntmps34
  go_wp2_with fail
  all_goals go_ret
  all_goals refine ⟨?_, Below.refl _ _⟩
  all_goals congr 2
  all_goals simp
  all_goals omega
end Go.Proofs.YtlpfijdjkaijeaaDoor
