/-
  The reference of layer 5, of no program: a number's digits by a power of ten; digits of a numeral; digits behind the point.
-/
import Derived.Test.YtehfmapbodjppaaDoorScG
import Derived.Test.YtehfmapbodjppaaDoorRefOa
import Derived.Test.YtehfmapbodjppaaDoorRefC
namespace Go.Proofs.YtehfmapbodjppaaDoor
open Go.RowKit

theorem p10_nat (k : Nat) : p10 k = ((10 ^ k : Nat) : Int) := by
  induction k with
  | zero => rfl
  | succ k ih =>
    show 10 * p10 k = _
    rw [ih, Nat.pow_succ]
    generalize 10 ^ k = T
    omega
/-- What N's digits tell of its quotient and rest by a power of ten. -/
theorem dig_qr {D : Nat → Int} {m : Nat} (hd : Dg D m) (N b : Nat) (hv : vs D 0 m = N) :
    vs D b (m - b) = ((N / 10 ^ b : Nat) : Int) ∧ vs D 0 (min b m) = ((N % 10 ^ b : Nat) : Int) := by
  have hT : 0 < 10 ^ b := Nat.pow_pos (by decide)
  rcases Nat.le_total b m with h | h
  · rw [Nat.min_eq_left h]
    have e := vs_split D (m - b) b 0
    rw [show b + (m - b) = m from by omega, Nat.zero_add, hv, p10_nat] at e
    have b1 := vs_bd hd b 0 (by omega)
    have b2 := vs_bd hd (m - b) b (by omega)
    rw [p10_nat] at b1
    obtain ⟨x, hx⟩ := Int.eq_ofNat_of_zero_le b1.1
    obtain ⟨y, hy⟩ := Int.eq_ofNat_of_zero_le b2.1
    rw [hx] at e b1 ⊢
    rw [hy] at e ⊢
    have e' : N = x + 10 ^ b * y := by
      have : (N : Int) = ((x + 10 ^ b * y : Nat) : Int) := by rw [e, Int.natCast_add, Int.natCast_mul]
      exact Int.ofNat.inj this
    generalize 10 ^ b = T at *
    have hx2 : x < T := by omega
    subst e'
    rw [Nat.add_mul_div_left _ _ hT, Nat.div_eq_of_lt hx2, Nat.add_mul_mod_self_left, Nat.mod_eq_of_lt hx2, Nat.zero_add]
    exact ⟨rfl, rfl⟩
  · rw [Nat.min_eq_right h, show m - b = 0 from by omega, hv]
    have b1 := vs_bd hd m 0 (by omega)
    rw [hv, p10_nat] at b1
    have hp : 10 ^ m ≤ 10 ^ b := Nat.pow_le_pow_right (by decide) h
    generalize 10 ^ b = T at *
    generalize 10 ^ m = S at *
    have hx2 : N < T := by omega
    rw [Nat.div_eq_of_lt hx2, Nat.mod_eq_of_lt hx2]
    exact ⟨rfl, rfl⟩
/-- The fold from above, stopped at 2000000. -/
theorem vs_cap {D : Nat → Int} {m : Nat} (hd : Dg D m) (j k : Nat) (hj : j < m) (hk : m - j = k + 1) : min (10 * min (vs D (j + 1) k) 2000000 + D j) 2000000 = min (vs D j (k + 1)) 2000000 := by
  have h1 := vs_bd hd k (j + 1) (by omega)
  have h2 := hd j hj
  show _ = min (D j + 10 * vs D (j + 1) k) 2000000
  omega
/-- Is there a digit but 0 among the first? -/
theorem vs_left {D : Nat → Int} {m : Nat} (hd : Dg D m) (i : Nat) (hi : i < m) : decide (vs D 0 (i + 1) ≠ 0) = (decide (vs D 0 i ≠ 0) || decide (D i ≠ 0)) := by
  have h1 := vs_bd hd i 0 (by omega)
  have h2 := hd i hi
  have e := vs_snoc D i 0
  rw [Nat.zero_add] at e
  have p := p10_pos i
  rw [e]
  have h3 : 0 ≤ p10 i * D i := Int.mul_nonneg (by omega) h2.1
  have h4 : p10 i * D i = 0 ↔ D i = 0 := by
    rw [Int.mul_eq_zero]; omega
  generalize p10 i * D i = x at *
  rw [← Bool.decide_or]
  apply decide_eq_decide.2
  omega
/-- The end: the steps that the digits make. -/
def endN (bl left : Bool) (n : Int) : Int := if bl = true then (if left = true then -n - 1 else -n) else n
theorem end_steps (bl : Bool) (N T : Nat) : inR (endN bl (decide (((N % T : Nat) : Int) ≠ 0)) (min ((N / T : Nat) : Int) 2000000)) = inR (stepsN bl N T) := by
  unfold stepsN endN
  generalize N / T = q
  generalize N % T = r
  have hr : decide ((r : Int) ≠ 0) = decide (r ≠ 0) := decide_eq_decide.2 (by omega)
  rw [hr]
  by_cases h : q ≤ 2000000
  · rw [Int.min_eq_left (by omega)]
    congr 1
    by_cases h0 : r = 0
    · cases bl <;> simp [h0]
    · cases bl <;> simp [h0] <;> omega
  · rw [Int.min_eq_right (by omega)]
    unfold inR
    rw [if_neg, if_neg]
    · cases bl <;> simp <;> omega
    · by_cases h0 : r = 0
      · cases bl <;> simp [h0]
      · cases bl <;> simp [h0]
/-- What is left to put ahead of a numeral's last digits. -/
def preD (m : Nat) : List UInt8 := if m < 10 then [] else Lib.decDigits (m / 10)
theorem pre_all (m : Nat) : Lib.decDigits m = preD m ++ [UInt8.ofNat (48 + m % 10)] := by
  unfold preD
  by_cases h : m < 10
  · rw [if_pos h, Lib.decDigits_one h, Nat.mod_eq_of_lt h]; rfl
  · rw [if_neg h, decD_big h]
theorem pre_step (m : Nat) (h : ¬ m < 10) : preD m = preD (m / 10) ++ [UInt8.ofNat (48 + m / 10 % 10)] := by
  rw [← pre_all]; unfold preD; rw [if_neg h]
theorem pre_end (m : Nat) (h : m < 10) : preD m = [] := by unfold preD; rw [if_pos h]
theorem frac_step0 : ∀ r : Fin 256, r.val ≠ 0 → fracF 8 r.val = UInt8.ofNat (48 + 10 * r.val / 256) :: fracF 8 (10 * r.val % 256) ∧ (fracF 8 (10 * r.val % 256)).length < (fracF 8 r.val).length := by decide +kernel
theorem frac_step (r : Nat) (h : r < 256) (h0 : r ≠ 0) : fracF 8 r = Lib.decDigits (10 * r / 256) ++ fracF 8 (10 * r % 256) ∧ (fracF 8 (10 * r % 256)).length < (fracF 8 r).length := by
  have := frac_step0 ⟨r, h⟩ h0
  rw [Lib.decDigits_one (by omega)]
  exact this
theorem frac_nought : fracF 8 0 = [] := rfl
end Go.Proofs.YtehfmapbodjppaaDoor
