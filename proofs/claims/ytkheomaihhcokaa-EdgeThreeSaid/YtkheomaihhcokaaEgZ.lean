/-
  What the program's package edge is to answer, as one fact: the laws are walked with it, and its parts are proved of the landed code behind that. (gen: by hand)
-/
import Derived.Test.YtkheomaihhcokaaGaD
import Derived.Test.YtkheomaihhcokaaEgV
namespace Go.Proofs.Ytkheomaihhcokaa
open Go.RowKit
structure EdgeOK : Prop where
  edges : ∀ (pa1 pa2 pa3 pa4 : Option Addr) (n1 n2 n3 n4 c1 c2 c3 c4 : Nat) (FV FT FN FC : Nat → Nat → Int) (w : World) (_ : MsW w pa1 pa2 pa3 pa4 n1 n2 n3 n4 FV FT FN FC) (_ : n1 ≤ 20) (_ : n4 ≤ 20),
    Calls Try.prog 11 #[.agg #[.slice pa1 n1 c1, .slice pa2 n2 c2, .slice pa3 n3 c3, .slice pa4 n4 c4]] w fun e w' => (∃ v Z, e = .returned (.tuple #[v, .int .i64 (agE (msB n1 n2 n3 n4 FV FT FN FC))]) ∧ OwnE w' w.heap.size v Z ∧ Z.map edC = egA (msB n1 n2 n3 n4 FV FT FN FC) FC n4 n1) ∧ Below w.heap.size w w'
  next : ∀ (pa1 pa2 pa3 pa4 : Option Addr) (n1 n2 n3 n4 c1 c2 c3 c4 : Nat) (FV FT FN FC : Nat → Nat → Int) (i : Int) (w : World) (_ : MsW w pa1 pa2 pa3 pa4 n1 n2 n3 n4 FV FT FN FC) (_ : n1 ≤ 20) (_ : n4 ≤ 20),
    Calls Try.prog 13 #[.agg #[.slice pa1 n1 c1, .slice pa2 n2 c2, .slice pa3 n3 c3, .slice pa4 n4 c4], .int .i64 i] w fun e w' => (∃ v, e = .returned (.tuple #[v, .int .i64 (agE (okN (msB n1 n2 n3 n4 FV FT FN FC) i n4))]) ∧ OwnI w' w.heap.size v (nxA (okN (msB n1 n2 n3 n4 FV FT FN FC) i n4) FC i n4)) ∧ Below w.heap.size w w'
  parts : ∀ (pa1 pa2 pa3 pa4 : Option Addr) (n1 n2 n3 n4 c1 c2 c3 c4 : Nat) (FV FT FN FC : Nat → Nat → Int) (w : World) (_ : MsW w pa1 pa2 pa3 pa4 n1 n2 n3 n4 FV FT FN FC) (_ : n1 ≤ 20) (_ : n4 ≤ 20),
    Calls Try.prog 15 #[.agg #[.slice pa1 n1 c1, .slice pa2 n2 c2, .slice pa3 n3 c3, .slice pa4 n4 c4]] w fun e w' => (∃ v, e = .returned (.tuple #[v, .int .i64 (agE (msB n1 n2 n3 n4 FV FT FN FC))]) ∧ OwnI w' w.heap.size v (ptA (msB n1 n2 n3 n4 FV FT FN FC) FC n4)) ∧ Below w.heap.size w w'
  find : ∀ (q : Option Addr) (n c : Nat) (L : List (Int × Int × List Int)) (a b : Int) (w : World) (_ : RowE w q n L) (_ : n ≤ 1000) (_ : ∀ e ∈ L, e.2.2.length ≤ 60),
    Calls Try.prog 18 #[.slice q n c, .int .i64 a, .int .i64 b] w fun e w' => (∃ v, e = .returned (.tuple #[.agg #[.int .i64 (fdV (L.find? (fdB a b))).1, .int .i64 (fdV (L.find? (fdB a b))).2.1, v], .bool (L.find? (fdB a b)).isSome]) ∧ OwnI w' w.heap.size v (fdV (L.find? (fdB a b))).2.2) ∧ Below w.heap.size w w'
  loose : ∀ (a : Option Addr) (n c : Nat) (L : List (Int × Int × List Int)) (w : World) (_ : RowE w a n L) (_ : n ≤ 60) (_ : ∀ e ∈ L, e.2.2.length ≤ 60),
    Calls Try.prog 17 #[.slice a n c] w fun e w' => (∃ v Z, e = .returned v ∧ OwnE w' w.heap.size v Z ∧ Z.map edC = lsL L) ∧ Below w.heap.size w w'
end Go.Proofs.Ytkheomaihhcokaa
