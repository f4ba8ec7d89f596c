/-
  Contracts of package vec: parts, cross, drop, below.
-/
import Derived.Test.YtllamakemgogaaaVcB
import Derived.Lib.MinMax
import Derived.RegionTactic
import Derived.BigRegion
import Derived.Deep.Cut
namespace Go.Proofs.Ytllamakemgogaaa
open Go.RowKit

/-- A cross product's parts stay within 64 bits. -/
theorem cross_wraps {a b c d : Int} (ha : NR a) (hb : NR b) (hc : NR c) (hd : NR d) :
    IntKind.i64.wrap (a * d) = a * d ∧ IntKind.i64.wrap (b * c) = b * c ∧ IntKind.i64.wrap (a * d - b * c) = a * d - b * c := by
  have p := near_prod ha hd
  have q := near_prod hb hc
  exact ⟨IntWalk.i64_in _ (by omega), IntWalk.i64_in _ (by omega), IntWalk.i64_in _ (by omega)⟩

set_option maxRecDepth 100000 in
set_option maxHeartbeats 1000000 in
theorem cross_any (a b c d : Int) (w : World) (h : n2 a b = true) (k : n2 c d = true) :
    Calls Try.prog 85 #[.agg #[.int .i64 a, .int .i64 b], .agg #[.int .i64 c, .int .i64 d]] w fun e w' => e = .returned (.int .i64 (a * d - b * c)) ∧ Below w.heap.size w w' := by
  obtain ⟨ha, hb⟩ := n2_iff.1 h
  obtain ⟨hc, hd⟩ := n2_iff.1 k
  obtain ⟨e1, e2, e3⟩ := cross_wraps ha hb hc hd
  clear h k ha hb hc hd
  go_enter Try.func85, Try.ntmps85
  go_wp2
  go_ret
  exact ⟨rfl, by (repeat (first | exact Below.refl _ _ | assumption | refine Below.drew ?_ | refine below_drewN ?_ _ | refine Below.setCell ?_ (by first | omega | (simp; done) | (simp; omega)) _ | refine Below.alloc ?_ (by first | omega | (simp; done) | (simp; omega)) _))⟩

/-- A part by its axis. -/
def pt (x y z : Int) (k : Nat) : Int := if k = 0 then x else if k = 1 then y else z
def dX (x y z : Int) (k : Nat) : Int := pt x y z ((k + 1) % 3)
def dY (x y z : Int) (k : Nat) : Int := pt x y z ((k + 2) % 3)

theorem below_wrap {n : Int} (h : -9223372036854775808 ≤ n) (k : n ≤ 9223372036854775807) : (n = -9223372036854775808 ∧ IntKind.i64.wrap (-n) = n) ∨ IntKind.i64.wrap (-n) = -n := by
  by_cases e : n = -9223372036854775808
  · exact .inl ⟨e, by rw [e]; decide⟩
  · exact .inr (IntWalk.i64_in _ (by omega))
end Go.Proofs.Ytllamakemgogaaa
