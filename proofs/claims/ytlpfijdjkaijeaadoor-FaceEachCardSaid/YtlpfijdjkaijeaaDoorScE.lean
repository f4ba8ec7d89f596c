/-
  Package scan: printed, Print.
-/
import Derived.Test.YtlpfijdjkaijeaaDoorScA
import Derived.Lib.ItoaMem
import Derived.Lib.LaidTab
namespace Go.Proofs.YtlpfijdjkaijeaaDoor
open Go.RowKit

/-- The library's table of powers of ten holds what its initialiser lays. -/
def Tab (w : World) : Prop := 1 < w.heap.size ∧ Lib.TabIs Tryd.prog w "internal/strconv.uint64pow10" .u64 Lib.pow10Tab
theorem gTab : Tryd.prog.globalNamed "internal/strconv.uint64pow10" = some 1 := by kernel_rfl
theorem Tab.below {w w' : World} (h : Tab w) (hb : Below w.heap.size w w') : Tab w' :=
  ⟨Nat.lt_of_lt_of_le h.1 hb.size, var?_below hb gTab h.1 h.2⟩
theorem Tab.keep {w w' : World} (h : Tab w) (hb : Below w.heap.size w w') : Tab w' := h.below hb
theorem below_grow (w : World) (k : Nat) (os : Array Obj) : Below w.heap.size w (Sort.grow (w.drewN k) os) :=
  ⟨rfl, rfl, rfl, by simp [Sort.grow], fun i hi => by simp [Sort.grow]; rw [Array.getElem?_append_left (by simpa using hi)]⟩
theorem itoaN_any (n : Nat) (w : World) (h1 : n ≤ 1000000000) (ht : Tab w) :
    Calls Tryd.prog 35 #[.int .i64 n] w fun e w' => e = .returned (.string ⟨(Lib.decDigits n).toArray⟩) ∧ Below w.heap.size w w' :=
  (Tryd.strconv_Itoa n (by omega) (by omega) w ht.2).mono fun e w' ⟨he, k, os, hw⟩ => ⟨by rw [he, Lib.itoa_nonneg], hw ▸ below_grow w k os⟩
theorem str_add (a b : List UInt8) : (⟨a.toArray⟩ : ByteArray) ++ ⟨b.toArray⟩ = ⟨(a ++ b).toArray⟩ := by
  apply ByteArray.ext; simp

/-! the digits behind the point, by the program's way -/
def padD : Nat → Nat → List UInt8
  | 0, _ => []
  | k + 1, L => padD k (L / 10) ++ [UInt8.ofNat (48 + L % 10)]
theorem pad_zero (k : Nat) : padD k 0 = Lib.repeatL [48] k := by
  induction k with
  | zero => rfl
  | succ k ih =>
    show padD k 0 ++ [48] = Lib.repeatL [48] (k + 1)
    rw [ih, Lib.repeatL_add]; rfl
theorem pad_dec (k : Nat) : ∀ L : Nat, L < 10 ^ (k + 1) → padD (k + 1) L = Lib.repeatL [48] (k + 1 - (Lib.decDigits L).length) ++ Lib.decDigits L := by
  induction k with
  | zero =>
    intro L h
    rw [Lib.decDigits_one (by simpa using h)]
    show [] ++ [UInt8.ofNat (48 + L % 10)] = _
    rw [show L % 10 = L from Nat.mod_eq_of_lt (by simpa using h)]; rfl
  | succ k ih =>
    intro L h
    show padD (k + 1) (L / 10) ++ [UInt8.ofNat (48 + L % 10)] = _
    by_cases h10 : L < 10
    · rw [Lib.decDigits_one h10, show L / 10 = 0 from by omega, pad_zero, show L % 10 = L from Nat.mod_eq_of_lt h10]; rfl
    · rw [decD_big h10, ih (L / 10) (by rw [Nat.pow_succ] at h; omega), List.length_append, List.append_assoc]
      congr 2
      simp
theorem frac_trim : ∀ r : Fin 256, r.val ≠ 0 → Lib.trimRightB (padD 8 (r.val * 390625)) 48 = fracF 8 r.val := by decide +kernel
theorem frac_pad (r : Nat) (h : r < 256) (h0 : r ≠ 0) : Lib.trimRightB (Lib.repeatL [48] (8 - (Lib.decDigits (r * 390625)).length) ++ Lib.decDigits (r * 390625)) 48 = fracF 8 r := by
  rw [← frac_trim ⟨r, h⟩ h0, pad_dec 7 (r * 390625) (by simp only [show (10 : Nat) ^ (7 + 1) = 100000000 from rfl]; omega)]

/-- What Print answers. -/
def retT (p : List UInt8 × Int) : Ending := .returned (.tuple #[.string ⟨p.1.toArray⟩, .int .i64 p.2])
end Go.Proofs.YtlpfijdjkaijeaaDoor
