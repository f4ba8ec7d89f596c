/-
  The reference limewashref04: near, Is2, Is3, Sub2, Sub3, Dot, Cross2, Cross3.
-/
import Derived.Test.YtfghjfgdjlkooaaVcD
import Derived.Test.YtfghjfgdjlkooaaVcE
namespace Go.Proofs.Ytfghjfgdjlkooaa
open Go.RowKit

theorem dot_wraps {a b c d e f : Int} (ha : NR a) (hb : NR b) (hc : NR c) (hd : NR d) (he : NR e) (hf : NR f) :
    IntKind.i64.wrap (a * d) = a * d ∧ IntKind.i64.wrap (b * e) = b * e ∧ IntKind.i64.wrap (c * f) = c * f ∧ IntKind.i64.wrap (a * d + b * e) = a * d + b * e ∧ IntKind.i64.wrap (a * d + b * e + c * f) = a * d + b * e + c * f := by
  have p := near_prod ha hd
  have q := near_prod hb he
  have r := near_prod hc hf
  exact ⟨IntWalk.i64_in _ (by omega), IntWalk.i64_in _ (by omega), IntWalk.i64_in _ (by omega), IntWalk.i64_in _ (by omega), IntWalk.i64_in _ (by omega)⟩
end Go.Proofs.Ytfghjfgdjlkooaa
