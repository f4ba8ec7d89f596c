/-
  The reference's Text: plain facts on decimal digits; the walk.
-/
import Derived.Test.YtjndajndllimhaaDoorRefX
import Derived.Test.YtjndajndllimhaaDoorWideC
namespace Go.Proofs.YtjndajndllimhaaDoor
open Go.RowKit

theorem vs_pos {D : Nat → Int} (n : Nat) : ∀ i, (∀ t, i ≤ t → t < i + (n + 1) → 0 ≤ D t ∧ D t ≤ 9) → D (i + n) ≠ 0 → 0 < vs D i (n + 1) := by
  induction n with
  | zero => intro i h k; have := h i (Nat.le_refl _) (by omega); rw [Nat.add_zero] at k; show 0 < D i + 10 * 0; omega
  | succ n ih =>
    intro i h k
    have := h i (Nat.le_refl _) (by omega)
    have q := ih (i + 1) (fun t h1 h2 => h t (by omega) (by omega)) (by rwa [show i + 1 + n = i + (n + 1) from by omega])
    show 0 < D i + 10 * vs D (i + 1) (n + 1)
    omega
/-- The text of k digits, the last one first in D. -/
def tx (D : Nat → Int) : Nat → List UInt8
  | 0 => []
  | k + 1 => UInt8.ofNat (48 + (D k).toNat) :: tx D k
theorem tx_shift (D : Nat → Int) (n : Nat) : tx D (n + 1) = tx (fun i => D (i + 1)) n ++ [UInt8.ofNat (48 + (D 0).toNat)] := by
  induction n with
  | zero => rfl
  | succ n ih => show _ :: tx D (n + 1) = (_ :: tx (fun i => D (i + 1)) n) ++ _; rw [ih]; rfl
theorem vs_shift (D : Nat → Int) (n : Nat) : ∀ i, vs D (i + 1) n = vs (fun j => D (j + 1)) i n := by
  induction n with
  | zero => intro i; rfl
  | succ n ih => intro i; show D (i + 1) + 10 * vs D (i + 1 + 1) n = D (i + 1) + 10 * vs (fun j => D (j + 1)) (i + 1) n; rw [ih]
theorem dec_big {u : Nat} (h : ¬ u < 10) : Lib.decDigits u = Lib.decDigits (u / 10) ++ [UInt8.ofNat (48 + u % 10)] := by rw [Lib.decDigits, dif_neg h]
theorem tx_dec (n : Nat) : ∀ D : Nat → Int, Dg D (n + 1) → D n ≠ 0 → tx D (n + 1) = Lib.decDigits (vs D 0 (n + 1)).toNat := by
  induction n with
  | zero =>
    intro D hd _
    have h := hd 0 (by omega)
    show [UInt8.ofNat (48 + (D 0).toNat)] = Lib.decDigits (D 0 + 10 * 0).toNat
    rw [Lib.decDigits_one (by omega)]
    congr 3; omega
  | succ n ih =>
    intro D hd ht
    have h := hd 0 (by omega)
    have hd' : Dg (fun i => D (i + 1)) (n + 1) := fun i hi => hd (i + 1) (by omega)
    have q := ih (fun i => D (i + 1)) hd' ht
    have e : vs D 0 (n + 1 + 1) = D 0 + 10 * vs (fun j => D (j + 1)) 0 (n + 1) := by
      show D 0 + 10 * vs D (0 + 1) (n + 1) = _; rw [vs_shift]
    have p := vs_pos (D := fun j => D (j + 1)) n 0 (fun t _ k => hd' t (by omega)) (by simpa using ht)
    rw [tx_shift, q, e]
    generalize vs (fun j => D (j + 1)) 0 (n + 1) = V at *
    rw [dec_big (u := (D 0 + 10 * V).toNat) (by omega), show (D 0 + 10 * V).toNat / 10 = V.toNat from by omega, show (D 0 + 10 * V).toNat % 10 = (D 0).toNat from by omega]
/-- k places of a number. -/
def padD : Nat → Nat → List UInt8
  | 0, _ => []
  | k + 1, L => padD k (L / 10) ++ [UInt8.ofNat (48 + L % 10)]
theorem dec_pad (k : Nat) : ∀ M L : Nat, 1 ≤ M → L < 10 ^ k → Lib.decDigits (M * 10 ^ k + L) = Lib.decDigits M ++ padD k L := by
  induction k with
  | zero => intro M L _ h; rw [Nat.pow_zero] at *; rw [show M * 1 + L = M from by omega]; simp [padD]
  | succ k ih =>
    intro M L hM h
    have p : 1 ≤ 10 ^ k := Nat.one_le_pow _ _ (by omega)
    rw [Nat.pow_succ] at h
    have e : M * 10 ^ (k + 1) + L = 10 * (M * 10 ^ k) + L := by rw [Nat.pow_succ]; rw [← Nat.mul_assoc, Nat.mul_comm]
    have h1 : 1 * 1 ≤ M * 10 ^ k := Nat.mul_le_mul hM p
    rw [e, dec_big (by omega), show (10 * (M * 10 ^ k) + L) / 10 = M * 10 ^ k + L / 10 from by omega, show (10 * (M * 10 ^ k) + L) % 10 = L % 10 from by omega, ih M (L / 10) hM (by omega), List.append_assoc]
    rfl
theorem pad_zero (k : Nat) : padD k 0 = Lib.repeatL [48] k := by
  induction k with
  | zero => rfl
  | succ k ih =>
    show padD k 0 ++ [48] = Lib.repeatL [48] (k + 1)
    rw [ih, Lib.repeatL_add]; rfl
theorem pad_dec (k : Nat) : ∀ L : Nat, L < 10 ^ (k + 1) → padD (k + 1) L = Lib.repeatL [48] (k + 1 - (Lib.decDigits L).length) ++ Lib.decDigits L := by
  induction k with
  | zero =>
    intro L h
    rw [Lib.decDigits_one (by simpa using h)]
    show [] ++ [UInt8.ofNat (48 + L % 10)] = _
    rw [show L % 10 = L from Nat.mod_eq_of_lt (by simpa using h)]; rfl
  | succ k ih =>
    intro L h
    show padD (k + 1) (L / 10) ++ [UInt8.ofNat (48 + L % 10)] = _
    by_cases h10 : L < 10
    · rw [Lib.decDigits_one h10, show L / 10 = 0 from by omega, pad_zero, show L % 10 = L from Nat.mod_eq_of_lt h10]; rfl
    · rw [dec_big h10, ih (L / 10) (by rw [Nat.pow_succ] at h; omega), List.length_append, List.append_assoc]
      congr 2
      simp
theorem dgS_dec (hi lo : Nat) (h : lo < 1000000000000000000) : dgS hi lo = Lib.decDigits (hi * 1000000000000000000 + lo) := by
  unfold dgS
  by_cases z : hi = 0
  · rw [if_pos z]; subst z; simp
  · rw [if_neg z, show (1000000000000000000 : Nat) = 10 ^ 18 from rfl, dec_pad 18 hi lo (by omega) h, pad_dec 17 lo h, List.append_assoc]
end Go.Proofs.YtjndajndllimhaaDoor
