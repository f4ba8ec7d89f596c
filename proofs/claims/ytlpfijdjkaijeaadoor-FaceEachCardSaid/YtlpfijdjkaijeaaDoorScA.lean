/-
  Package scan: isDigit, inRange; the library's Mul64 and CutPrefix in the walks' form.
-/
import Derived.Test.YtlpfijdjkaijeaaDoorBase
import Derived.Test.YtlpfijdjkaijeaaDoorScPureB
import Derived.Test.YtlpfijdjkaijeaaDoorShelf
namespace Go.Proofs.YtlpfijdjkaijeaaDoor
open Go.RowKit

theorem isDigit_any (r : Int) (w : World) :
    Calls Tryd.prog 33 #[.int .i32 r] w fun e w' => e = .returned (.bool (decide (48 ≤ r ∧ r ≤ 57))) ∧ Below w.heap.size w w' := by
  go_enter Tryd.func33, Tryd.ntmps33
  go_wp2_with fail
  all_goals go_ret
  all_goals refine ⟨?_, Below.refl _ _⟩
  all_goals congr 2
  all_goals simp
  all_goals omega
end Go.Proofs.YtlpfijdjkaijeaaDoor
