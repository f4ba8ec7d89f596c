/-
  Contracts of package sign: the method of a triangle in space, Normal. (gen/SgC.py)
-/
import Derived.Test.YthdcldbocakbpaaSgA
import Derived.Test.YthdcldbocakbpaaVcF
import Derived.Test.YthdcldbocakbpaaVcR
namespace Go.Proofs.Ythdcldbocakbpaa
open Go.RowKit

end Go.Proofs.Ythdcldbocakbpaa
