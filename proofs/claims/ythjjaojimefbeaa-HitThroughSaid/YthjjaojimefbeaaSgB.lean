/-
  Contracts of package sign: side, the methods of a plane, Area, Side. (gen/SgB.py)
-/
import Derived.Test.YthjjaojimefbeaaSgA
import Derived.Test.YthjjaojimefbeaaVcG
import Derived.Test.YthjjaojimefbeaaVcR
namespace Go.Proofs.Ythjjaojimefbeaa
open Go.RowKit

end Go.Proofs.Ythjjaojimefbeaa
