/-
  Contracts of package whole and of its reference: Clamp; the reference's Floor and Ceil.
-/
import Derived.Test.YtfghjfgdjlkooaaWhA
namespace Go.Proofs.Ytfghjfgdjlkooaa
open Go.RowKit

end Go.Proofs.Ytfghjfgdjlkooaa
