/-
  Plain facts on whole numbers for package wide: no program in sight.
-/
import Derived.Below
namespace Go.Proofs.Ytfghjfgdjlkooaa
theorem fd_unique (n d q r : Int) (hd : 1 ≤ d) (h : n = d * q + r) (h0 : 0 ≤ r) (h1 : r < d) : n / d = q ∧ n % d = r := by
  have := (Int.ediv_emod_unique (a := n) (b := d) (q := q) (r := r) (by omega)).2 ⟨by omega, h0, h1⟩
  exact this

theorem fd_neg (n d : Int) (hd : 1 ≤ d) (h : n.tmod d < 0) : n.tdiv d - 1 = n / d ∧ n.tmod d + d = n % d := by
  have e := Int.mul_tdiv_add_tmod n d
  have l := Int.lt_tmod_of_pos n (b := d) (by omega)
  have := fd_unique n d (n.tdiv d - 1) (n.tmod d + d) hd (by rw [Int.mul_sub]; omega) (by omega) (by omega)
  exact ⟨this.1.symm, this.2.symm⟩

theorem fd_pos (n d : Int) (hd : 1 ≤ d) (h : ¬ n.tmod d < 0) : n.tdiv d = n / d ∧ n.tmod d = n % d := by
  have e := Int.mul_tdiv_add_tmod n d
  have l := Int.tmod_lt_of_pos n (b := d) (by omega)
  have := fd_unique n d (n.tdiv d) (n.tmod d) hd (by omega) (by omega) (by omega)
  exact ⟨this.1.symm, this.2.symm⟩

theorem fd_bounds (n d : Int) (hd : 1 ≤ d) (h0 : -9223372036854775808 ≤ n) (h1 : n ≤ 9223372036854775807) : -9223372036854775808 ≤ n / d ∧ n / d ≤ 9223372036854775807 ∧ 0 ≤ n % d ∧ n % d < d := by
  refine ⟨?_, ?_, Int.emod_nonneg _ (by omega), Int.emod_lt_of_pos _ (by omega)⟩
  · exact (Int.le_ediv_iff_mul_le (by omega)).2 (by have : 9223372036854775808 * 1 ≤ 9223372036854775808 * d := Int.mul_le_mul_of_nonneg_left hd (by omega); omega)
  · have := (Int.ediv_lt_iff_lt_mul (a := n) (b := 9223372036854775808) (c := d) (by omega)).2 (by have : 9223372036854775808 * 1 ≤ 9223372036854775808 * d := Int.mul_le_mul_of_nonneg_left hd (by omega); omega)
    omega

/-- A Wide that is right. -/
def Rt (hi lo : Int) : Prop := 0 ≤ lo ∧ lo < 1000000000000000000 ∧ -4000000000000000000 ≤ hi ∧ hi ≤ 4000000000000000000
instance (hi lo : Int) : Decidable (Rt hi lo) := by unfold Rt; infer_instance
def isB (hi lo : Int) : Bool := decide (Rt hi lo)
def cmpI (ah al bh bl : Int) : Int := if ah = bh ∧ al = bl then 0 else if ah < bh ∨ (ah = bh ∧ al < bl) then -1 else 1
theorem cmpI_eq {ah al bh bl : Int} (h : ah = bh) (k : al = bl) : 0 = cmpI ah al bh bl := by unfold cmpI; rw [if_pos ⟨h, k⟩]
theorem cmpI_lt {ah al bh bl : Int} (h : ah < bh ∨ (ah = bh ∧ al < bl)) : -1 = cmpI ah al bh bl := by unfold cmpI; rw [if_neg (by omega), if_pos h]
theorem cmpI_gt {ah al bh bl : Int} (h : bh < ah ∨ (ah = bh ∧ bl < al)) : 1 = cmpI ah al bh bl := by unfold cmpI; rw [if_neg (by omega), if_neg (by omega)]
theorem cmpI_self (h l : Int) : cmpI h l h l = 0 := (cmpI_eq rfl rfl).symm
end Go.Proofs.Ytfghjfgdjlkooaa
