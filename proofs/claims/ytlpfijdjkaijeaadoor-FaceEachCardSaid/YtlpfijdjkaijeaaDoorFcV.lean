/-
  FaceEach. (gen/FcU.py)
-/
import Derived.Test.YtlpfijdjkaijeaaDoorFcUPp
import Derived.Test.YtlpfijdjkaijeaaDoorFcUPn
import Derived.Test.YtlpfijdjkaijeaaDoorFcUNp
import Derived.Test.YtlpfijdjkaijeaaDoorFcUNn
namespace Go.Proofs.YtlpfijdjkaijeaaDoor
open Go.RowKit

theorem law_each (v t n : Int) (A : Option Addr) (N c : Nat) (F : Nat → ByteArray) (w : World) (hr : RowS w A N c F) (hN : N ≤ 9223372036854775807) (ht : Tab w)
    (bv : -9223372036854775808 ≤ v ∧ v ≤ 9223372036854775807) (bt : -9223372036854775808 ≤ t ∧ t ≤ 9223372036854775807) (bn : -9223372036854775808 ≤ n ∧ n ≤ 9223372036854775807) :
    Calls Tryd.prog 7 #[.int .i64 v, .int .i64 t, .int .i64 n, .slice A N c] w fun e w' => e = .returned (.bool true) ∧ Below w.heap.size w w' := by
  by_cases st : t < 0
  · by_cases sn : n < 0
    · exact law_eachNn v t n A N c F w hr hN ht bv bt bn st sn
    · exact law_eachNp v t n A N c F w hr hN ht bv bt bn st (by omega)
  · by_cases sn : n < 0
    · exact law_eachPn v t n A N c F w hr hN ht bv bt bn (by omega) sn
    · exact law_eachPp v t n A N c F w hr hN ht bv bt bn (by omega) (by omega)
end Go.Proofs.YtlpfijdjkaijeaaDoor
