/-
  What a region's rule wants of a number's block (rel.py's allocn).
-/
import Derived.Test.YtbcbocnblkepcaaRefOa
import Derived.Test.YtbcbocnblkepcaaRel
namespace Go.Proofs.Ytbcbocnblkepcaa
theorem noIntN {W : World} {g : Nat} {T : TypeId} {x : Bool} {p : Option Addr} {q r : Nat} (h : Lok W g T #[.bool x, .slice p q r]) : NoInt W g := fun k v e => by
  unfold Lok at h
  simp [World.cell?, h] at e
  rcases k with _ | _ | k <;> simp at e
theorem noIntN0 {W : World} {g : Nat} {T : TypeId} {x : Bool} {p : Option Addr} {q r : Nat} (h : Lok W g T #[.bool x, .slice p q r]) (z : Bool) : NoInt (W.setCell ⟨g, 0, none⟩ (.bool z)) g := (noIntN h).set (fun _ e => by cases e) ⟨_, h.cell (i := 0) rfl⟩
/-- A small product of two right parts. -/
theorem small_prod {a b : Int} (ha : -1000000000000000000 ≤ a ∧ a ≤ 1000000000000000000) (hb : -1000000000000000000 ≤ b ∧ b ≤ 1000000000000000000) : Small (a * b) ∧ Small a ∧ Small b := by
  have h := Nat.mul_le_mul (show a.natAbs ≤ 1000000000000000000 by omega) (show b.natAbs ≤ 1000000000000000000 by omega)
  refine ⟨small_of ?_, small_of (by omega), small_of (by omega)⟩
  rw [Int.natAbs_mul]
  exact Nat.le_trans h (by decide)
end Go.Proofs.Ytbcbocnblkepcaa
