/-
  Contracts of package whole and of its reference: Gcd.
-/
import Derived.Test.YtfghjfgdjlkooaaWhA
namespace Go.Proofs.Ytfghjfgdjlkooaa
open Go.RowKit

theorem u64_neg (n : Int) (h0 : n < 0) (h1 : -9223372036854775808 ≤ n) : IntKind.u64.wrap (-IntKind.u64.wrap n) = -n := by
  have e : ∀ m : Int, IntKind.u64.wrap m = m % 18446744073709551616 := fun m => rfl
  rw [e, e]; omega
/-- A row of ints that is read: as a list. -/
def RowL (W : World) (a : Option Addr) (l : List Int) (c : Nat) : Prop :=
  l.length ≤ c ∧ (l = [] ∨ ∃ b off, a = some ⟨b, off, none⟩ ∧ b < W.heap.size ∧ ∀ i, i < l.length → W.cell? ⟨b, off + i, none⟩ = some (.int .i64 (l.getD i 0)))
def AllI (l : List Int) : Prop := ∀ x ∈ l, In64 x
theorem RowL.keep {W W' : World} {a : Option Addr} {l : List Int} {c : Nat} (h : RowL W a l c) (hb : Below W.heap.size W W') : RowL W' a l c := by
  obtain ⟨h0, h | ⟨b, off, ha, hl, h⟩⟩ := h
  · exact ⟨h0, .inl h⟩
  · exact ⟨h0, .inr ⟨b, off, ha, Nat.lt_of_lt_of_le hl hb.size, fun i hi => keepc hb (h i hi)⟩⟩
theorem RowL.at {W : World} {a : Option Addr} {l : List Int} {c : Nat} (h : RowL W a l c) {i : Nat} (hi : i < l.length) : ∃ b off, a = some ⟨b, off, none⟩ ∧ b < W.heap.size ∧ W.cell? ⟨b, off + i, none⟩ = some (.int .i64 (l.getD i 0)) := by
  obtain ⟨h0, rfl | ⟨b, off, ha, hl, h⟩⟩ := h
  · cases hi
  · exact ⟨b, off, ha, hl, h i hi⟩
theorem getD_mem {l : List Int} {i : Nat} (h : i < l.length) : l.getD i 0 ∈ l := by
  have e : l.getD i 0 = l[i] := by simp [List.getD, h]
  rw [e]; exact List.getElem_mem h
theorem take_getD {l : List Int} {i : Nat} (h : i < l.length) : l.take (i + 1) = l.take i ++ [l.getD i 0] := by
  have e : l.getD i 0 = l[i] := by simp [List.getD, h]
  rw [e, List.take_succ_eq_append_getElem h]
theorem gcdL_take_bd {l : List Int} (h : AllI l) (k : Nat) : gcdL (l.take k) ≤ 9223372036854775808 :=
  gcdL_bd _ _ fun x hx => by have := h x (List.mem_of_mem_take hx); unfold In64 at this; omega
theorem gcdL_snoc (l : List Int) (x : Int) : gcdL (l ++ [x]) = Nat.gcd (gcdL l) x.natAbs := by rw [gcdL_append]; simp [gcdL]

/-- What Gcd answers. -/
def gP (l : List Int) : Int := if gcdL l = 9223372036854775808 then 0 else gcdL l
def gX (l : List Int) : Int := if gcdL l = 9223372036854775808 then 4 else 0

end Go.Proofs.Ytfghjfgdjlkooaa
