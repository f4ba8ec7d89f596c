/-
  A row of texts in memory.
-/
import Derived.Test.YtlpfijdjkaijeaaDoorBase
namespace Go.Proofs.YtlpfijdjkaijeaaDoor
open Go.RowKit

/-- A row of texts in memory. -/
def RowS (W : World) (a : Option Addr) (n c : Nat) (F : Nat → ByteArray) : Prop :=
  n = 0 ∨ ∃ b off, a = some ⟨b, off, none⟩ ∧ b < W.heap.size ∧ n ≤ c ∧ ∀ i, i < n → W.cell? ⟨b, off + i, none⟩ = some (.string (F i))
theorem RowS.keep {W W' : World} {a : Option Addr} {n c : Nat} {F : Nat → ByteArray} (h : RowS W a n c F) (hb : Below W.heap.size W W') : RowS W' a n c F := by
  rcases h with h | ⟨b, off, ha, hl, hc, h⟩
  · exact .inl h
  · exact .inr ⟨b, off, ha, Nat.lt_of_lt_of_le hl hb.size, hc, fun i hi => keepc hb (h i hi)⟩
theorem RowS.at {W : World} {a : Option Addr} {n c : Nat} {F : Nat → ByteArray} (h : RowS W a n c F) {i : Nat} (hi : i < n) : ∃ b off, a = some ⟨b, off, none⟩ ∧ b < W.heap.size ∧ ∀ i, i < n → W.cell? ⟨b, off + i, none⟩ = some (.string (F i)) := by
  rcases h with h | ⟨b, off, ha, hl, hc, h⟩
  · omega
  · exact ⟨b, off, ha, hl, h⟩
end Go.Proofs.YtlpfijdjkaijeaaDoor
