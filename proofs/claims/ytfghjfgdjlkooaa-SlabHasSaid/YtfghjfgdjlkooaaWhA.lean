/-
  Contracts of package whole and of its reference: Floor, Ceil, Clamp.
-/
import Derived.Test.YtfghjfgdjlkooaaBase
import Derived.Test.YtfghjfgdjlkooaaWhPl
namespace Go.Proofs.Ytfghjfgdjlkooaa
open Go.RowKit

theorem ret_int3 {a b c d : Int} (x : Int) (h : a = b ∧ c = d) : Ending.returned (.tuple #[.int .i64 a, .int .i64 c, .int .i64 x]) = .returned (.tuple #[.int .i64 b, .int .i64 d, .int .i64 x]) := by rw [h.1, h.2]
theorem ret_intE {a b : Int} (x : Int) (h : a = b) : Ending.returned (.tuple #[.int .i64 a, .int .i64 x]) = .returned (.tuple #[.int .i64 b, .int .i64 x]) := by rw [h]
/-- A pair that has a quotient. -/
def Dvb (a b : Int) : Prop := b ≠ 0 ∧ ¬ (a = -9223372036854775808 ∧ b = -1)
def In64 (a : Int) : Prop := -9223372036854775808 ≤ a ∧ a ≤ 9223372036854775807

/-- What Floor answers: quotient, what is left, error. -/
def fE (a b : Int) : Int := if b = 0 then 3 else if a = -9223372036854775808 ∧ b = -1 then 4 else 0
def fQ (a b : Int) : Int := if fE a b = 0 then flQ a b else 0
def fR (a b : Int) : Int := if fE a b = 0 then flR a b else 0
def cQ (a b : Int) : Int := if fE a b = 0 then clQ a b else 0
theorem fE_ok {a b : Int} (h : Dvb a b) : fE a b = 0 := by unfold fE; rw [if_neg h.1, if_neg h.2]
theorem fE_ways (a b : Int) : (Dvb a b ∧ fE a b = 0) ∨ (b = 0 ∧ fE a b = 3) ∨ (a = -9223372036854775808 ∧ b = -1 ∧ fE a b = 4) := by
  unfold fE Dvb
  by_cases h : b = 0
  · rw [if_pos h]; exact .inr (.inl ⟨h, rfl⟩)
  · rw [if_neg h]
    by_cases k : a = -9223372036854775808 ∧ b = -1
    · rw [if_pos k]; exact .inr (.inr ⟨k.1, k.2, rfl⟩)
    · rw [if_neg k]; exact .inl ⟨⟨h, k⟩, rfl⟩
def cP (n lo hi : Int) : Int := if hi < lo then 0 else if n < lo then lo else if hi < n then hi else n
def clX (lo hi : Int) : Int := if hi < lo then 1 else 0
end Go.Proofs.Ytfghjfgdjlkooaa
