/-
  The reference's Div: plain facts on digits; the walk.
-/
import Derived.Test.YtjndajndllimhaaDoorRefV
import Derived.Test.YtjndajndllimhaaDoorWideE
import Derived.Deep.RegionWith
namespace Go.Proofs.YtjndajndllimhaaDoor
open Go.RowKit

/-- The number of the digits from j on. -/
def topD (D : Nat → Int) (m j : Nat) : Int := vs D j (m - j)
/-- The quotient's digit at j. -/
def quoD (D : Nat → Int) (m : Nat) (d : Int) (j : Nat) : Int := topD D m j / d - 10 * (topD D m (j + 1) / d)
theorem topD_succ (D : Nat → Int) {m j : Nat} (h : j < m) : topD D m j = D j + 10 * topD D m (j + 1) := by
  unfold topD
  rw [show m - j = (m - (j + 1)) + 1 from by omega]; rfl
theorem topD_nonneg {D : Nat → Int} {m j : Nat} (h : Dg D m) : 0 ≤ topD D m j := by
  unfold topD
  rcases Nat.lt_or_ge j m with q | q
  · exact (vs_bd h (m - j) j (by omega)).1
  · rw [show m - j = 0 from by omega]; exact Int.le_refl _
theorem quo_step {D : Nat → Int} {m j : Nat} {d : Int} (hd : 1 ≤ d) (h : j < m) : (10 * (topD D m (j + 1) % d) + D j) / d = quoD D m d j ∧ (10 * (topD D m (j + 1) % d) + D j) % d = topD D m j % d := by
  have e := topD_succ D h
  have q := Int.mul_ediv_add_emod (topD D m (j + 1)) d
  have e2 : topD D m j = 10 * (topD D m (j + 1) % d) + D j + d * (10 * (topD D m (j + 1) / d)) := by
    rw [e]
    have : d * (10 * (topD D m (j + 1) / d)) = 10 * (d * (topD D m (j + 1) / d)) := by rw [Int.mul_left_comm]
    omega
  unfold quoD
  constructor
  · rw [e2, Int.add_mul_ediv_left _ _ (by omega)]; omega
  · rw [e2, Int.add_mul_emod_self_left]
theorem quo_dg {D : Nat → Int} {m : Nat} {d : Int} (hd : 1 ≤ d) (hD : Dg D m) : Dg (quoD D m d) m := by
  intro j hj
  obtain ⟨e, _⟩ := quo_step (D := D) hd hj
  have a := Int.emod_nonneg (topD D m (j + 1)) (b := d) (by omega)
  have b := Int.emod_lt_of_pos (topD D m (j + 1)) (b := d) (by omega)
  have c := hD j hj
  rw [← e]
  refine ⟨Int.ediv_nonneg (by omega) (by omega), ?_⟩
  have : (10 * (topD D m (j + 1) % d) + D j) / d < 10 := Int.ediv_lt_of_lt_mul (by omega) (by omega)
  omega
theorem quo_vs (D : Nat → Int) (m : Nat) (d : Int) (l : Nat) : ∀ j, j + l = m → vs (quoD D m d) j l = topD D m j / d := by
  induction l with
  | zero =>
    intro j hj
    have : topD D m j = 0 := by unfold topD; rw [show m - j = 0 from by omega]; rfl
    rw [this]; simp [vs]
  | succ l ih =>
    intro j hj
    show quoD D m d j + 10 * vs (quoD D m d) (j + 1) l = _
    rw [ih (j + 1) (by omega)]
    unfold quoD; omega
/-- What is left, rounded down. -/
theorem floor_neg (A d : Int) (hd : 1 ≤ d) : (A % d = 0 → -A / d = -(A / d) ∧ -A % d = 0) ∧ (0 < A % d → -A / d = -(A / d) - 1 ∧ -A % d = d - A % d) := by
  have e := Int.mul_ediv_add_emod A d
  have e2 := Int.mul_ediv_add_emod (-A) d
  have a := Int.emod_nonneg A (b := d) (by omega)
  have b := Int.emod_lt_of_pos A (b := d) (by omega)
  have a2 := Int.emod_nonneg (-A) (b := d) (by omega)
  have b2 := Int.emod_lt_of_pos (-A) (b := d) (by omega)
  constructor
  · intro h
    have h1 : -A / d = -(A / d) := by
      have : -A = d * (-(A / d)) := by rw [Int.mul_neg]; omega
      rw [this, Int.mul_ediv_cancel_left _ (by omega)]
    refine ⟨h1, ?_⟩
    rw [h1, Int.mul_neg] at e2; omega
  · intro h
    have h1 : -A / d = -(A / d) - 1 := by
      have : -A = (d - A % d) + d * (-(A / d) - 1) := by rw [Int.mul_sub, Int.mul_neg]; omega
      rw [this, Int.add_mul_ediv_left _ _ (by omega), Int.ediv_eq_zero_of_lt (by omega) (by omega)]; omega
    refine ⟨h1, ?_⟩
    rw [h1, Int.mul_sub, Int.mul_neg] at e2; omega
/-- The parts of a quotient. -/
theorem div_parts (hi lo n : Int) (h : Rt hi lo) (hn : 1 ≤ n) : (hi * 1000000000000000000 + lo) / n / 1000000000000000000 = dvH hi n ∧ (hi * 1000000000000000000 + lo) / n % 1000000000000000000 = dvL hi lo n ∧ (hi * 1000000000000000000 + lo) % n = dvR hi lo n := by
  obtain ⟨l0, l1, _, _⟩ := h
  have e := Int.mul_ediv_add_emod hi n
  have a := Int.emod_nonneg hi (b := n) (by omega)
  have b := Int.emod_lt_of_pos hi (b := n) (by omega)
  have e2 : hi * 1000000000000000000 + lo = hi % n * 1000000000000000000 + lo + n * (hi / n * 1000000000000000000) := by
    have : n * (hi / n * 1000000000000000000) = n * (hi / n) * 1000000000000000000 := by rw [Int.mul_assoc]
    omega
  have q0 : 0 ≤ (hi % n * 1000000000000000000 + lo) / n := Int.ediv_nonneg (by omega) (by omega)
  have q1 : (hi % n * 1000000000000000000 + lo) / n < 1000000000000000000 := Int.ediv_lt_of_lt_mul (by omega) (by omega)
  unfold dvH dvL dvR
  rw [e2, Int.add_mul_ediv_left _ _ (by omega), Int.add_mul_emod_self_left]
  refine ⟨by omega, by omega, rfl⟩
end Go.Proofs.YtjndajndllimhaaDoor
