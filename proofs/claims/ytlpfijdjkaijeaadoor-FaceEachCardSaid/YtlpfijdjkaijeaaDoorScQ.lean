/-
  What the rows of this seat share: from the listed tables to the walks' fact; a start that meets the condition.
-/
import Derived.Test.YtlpfijdjkaijeaaDoorScE
import Derived.ProofKit
import Derived.LaidMore
import Derived.Lay
import Derived.OpenShut
import Derived.Stop.Joined
import Derived.Stop.LaidErr
import Derived.Lib.SmallJoins
import Derived.Lib.LaidTab
namespace Go.Proofs.YtlpfijdjkaijeaaDoor
open Go.ChangeShapes Go.WideShapes Go.ChangeAt Go.RowKit Go.Joins

def L5 : List (String × DataW Unit) := [("math/bits.deBruijn32tab", Rows.laid_math_bits_deBruijn32tab), ("math/bits.deBruijn64tab", Rows.laid_math_bits_deBruijn64tab), ("internal/strconv.uint64pow10", Rows.laid_internal_strconv_uint64pow10), ("unicode/utf8.acceptRanges", Rows.laid_unicode_utf8_acceptRanges), ("unicode/utf8.first", Rows.laid_unicode_utf8_first)]

theorem own : ownKnob Tryd.prog.godebug = none := by kernel_rfl
theorem bd_i64 {a : Int} (h : (Lit.int .i64 a).wf = true) : -9223372036854775808 ≤ a ∧ a ≤ 9223372036854775807 := by
  have := bounds_i64 h
  exact this

/-- A heap that meets the condition. -/
theorem laid_met (os : Os) (args : Array Value) : laidMetH Tryd.prog L5 ((World.laidAll Tryd.prog os L5).forCall (fun _ _ => 0) ⟨#[], args, []⟩).memory := by
  rw [MakeChecks.laidMetH_plain _ _ _ (by kernel_rfl)]; exact laidMet_laidAll _ (by kernel_rfl) (by kernel_rfl)

theorem cells64 : Tryd.prog.cellsOf 76 = 1 := by kernel_rfl
theorem cellsTab : Tryd.prog.cellsOf 84 = 20 := by kernel_rfl
theorem tyTab : (Tryd.prog.globals[1]?).map (·.type) = some 84 := by kernel_rfl

/-- What the condition gives the walks. -/
theorem tab_of_laid {W : World} (h : laidMetH Tryd.prog L5 W) : Tab W := by
  rw [MakeChecks.laidMetH_plain _ _ _ (by kernel_rfl)] at h
  have h3 : laidMet Tryd.prog (("internal/strconv.uint64pow10", Lib.tabData .u64 Lib.pow10Tab) :: [("unicode/utf8.acceptRanges", Rows.laid_unicode_utf8_acceptRanges), ("unicode/utf8.first", Rows.laid_unicode_utf8_first)]) W := h.tail.tail
  have ht := Lib.tabIs_of_head gTab tyTab Tryd.underlying84 Tryd.underlying76 cells64 cellsTab h3
  exact ⟨cell_lt (ht.cell gTab 0 (by decide)), ht⟩
end Go.Proofs.YtlpfijdjkaijeaaDoor
