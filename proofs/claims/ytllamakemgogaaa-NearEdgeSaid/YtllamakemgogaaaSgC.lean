/-
  Contracts of package sign: the method of a triangle in space, Normal. (gen/SgC.py)
-/
import Derived.Test.YtllamakemgogaaaSgA
import Derived.Test.YtllamakemgogaaaVcF
import Derived.Test.YtllamakemgogaaaVcR
namespace Go.Proofs.Ytllamakemgogaaa
open Go.RowKit

end Go.Proofs.Ytllamakemgogaaa
