/-
  What all rows share: the types are laid out; structs' fields that are ints.
-/
import Derived.Test.YtfghjfgdjlkooaaOpenK
namespace Go.Proofs.Ytfghjfgdjlkooaa
open Go.ChangeShapes Go.WideShapes Go.ChangeAt Go.RowKit Go.Joins

theorem laidOut : laidOutB Try.prog = true := by kernel_rfl
theorem fields_int2 {f0 f1 : Field} (h0 : Try.prog.underlying f0.type = some (.int .i64) := by kernel_rfl) (h1 : Try.prog.underlying f1.type = some (.int .i64) := by kernel_rfl) : ∀ (j : Nat) (f : Field), #[f0, f1][j]? = some f → Try.prog.underlying f.type = some (.int .i64) := by
  intro j f h
  rcases j with _ | _ | j
  · simp at h; subst h; exact h0
  · simp at h; subst h; exact h1
  · simp at h
theorem fields_int3 {f0 f1 f2 : Field} (h0 : Try.prog.underlying f0.type = some (.int .i64) := by kernel_rfl) (h1 : Try.prog.underlying f1.type = some (.int .i64) := by kernel_rfl) (h2 : Try.prog.underlying f2.type = some (.int .i64) := by kernel_rfl) : ∀ (j : Nat) (f : Field), #[f0, f1, f2][j]? = some f → Try.prog.underlying f.type = some (.int .i64) := by
  intro j f h
  rcases j with _ | _ | _ | j
  · simp at h; subst h; exact h0
  · simp at h; subst h; exact h1
  · simp at h; subst h; exact h2
  · simp at h
end Go.Proofs.Ytfghjfgdjlkooaa
