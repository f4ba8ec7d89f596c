/-
  Contracts of package sign: side, the methods of a plane, Area, Side. (gen/SgB.py)
-/
import Derived.Test.YtfghjfgdjlkooaaSgA
import Derived.Test.YtfghjfgdjlkooaaVcG
import Derived.Test.YtfghjfgdjlkooaaVcR
namespace Go.Proofs.Ytfghjfgdjlkooaa
open Go.RowKit

end Go.Proofs.Ytfghjfgdjlkooaa
