/-
  How two points are the same: one Bool.
-/
import Derived.Test.YtfghjfgdjlkooaaVcG
namespace Go.Proofs.Ytfghjfgdjlkooaa
open Go.RowKit

def q3 (a b c d e f : Int) : Bool := a == d && (b == e && c == f)
def q2 (a b c d : Int) : Bool := a == c && b == d
theorem q3_iff {a b c d e f : Int} : q3 a b c d e f = true ↔ a = d ∧ b = e ∧ c = f := by unfold q3; simp
theorem q3_not {a b c d e f : Int} (h : ¬ (a = d ∧ b = e ∧ c = f)) : q3 a b c d e f = false := by
  cases e' : q3 a b c d e f with
  | false => rfl
  | true => exact absurd (q3_iff.1 e') h
theorem q3_self (a b c : Int) : q3 a b c a b c = true := q3_iff.2 ⟨rfl, rfl, rfl⟩
theorem q2_self (a b : Int) : q2 a b a b = true := by unfold q2; simp
theorem beq_no {a b : Int} (h : ¬ a = b) : (a == b) = false := by rw [beq_eq_false_iff_ne]; exact h
set_option maxRecDepth 100000 in
@[go_sem high] theorem eql_v3 (w : World) (a b c d e f : Int) : (binOp .eql 23 (.agg #[.int .i64 a, .int .i64 b, .int .i64 c]) (.agg #[.int .i64 d, .int .i64 e, .int .i64 f])).run Try.prog w = .ok (.bool (q3 a b c d e f)) w := by
  unfold q3
  by_cases h1 : a = d
  · subst h1
    by_cases h2 : b = e
    · subst h2
      by_cases h3 : c = f
      · subst h3; simp [go_sem]
      · have e3 := beq_no h3
        simp [go_sem, e3]
    · have e2 := beq_no h2
      simp [go_sem, e2]
  · have e1 := beq_no h1
    simp [go_sem, e1]
end Go.Proofs.Ytfghjfgdjlkooaa
