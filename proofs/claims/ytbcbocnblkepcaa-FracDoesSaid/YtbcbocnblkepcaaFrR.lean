/-
  Plain facts on reduced fractions.
-/
import Derived.Test.YtbcbocnblkepcaaFrC
namespace Go.Proofs.Ytbcbocnblkepcaa

theorem gc_dvd (n d : Int) : gcF n d ∣ n ∧ gcF n d ∣ d := by
  unfold gcF
  exact ⟨Int.ofNat_dvd_left.2 (Nat.gcd_dvd_left _ _), Int.ofNat_dvd_left.2 (Nat.gcd_dvd_right _ _)⟩
theorem rd_parts {n d : Int} (h : FR n d) : n = gcF n d * n.tdiv (gcF n d) ∧ d = gcF n d * d.tdiv (gcF n d) ∧ Nat.gcd (n.tdiv (gcF n d)).natAbs (d.tdiv (gcF n d)).natAbs = 1 ∧ 1 ≤ d.tdiv (gcF n d) := by
  obtain ⟨g1, g2⟩ := gcF_bd h
  obtain ⟨v1, v2⟩ := gc_dvd n d
  have e1 : gcF n d * n.tdiv (gcF n d) = n := Int.mul_tdiv_cancel' v1
  have e2 : gcF n d * d.tdiv (gcF n d) = d := Int.mul_tdiv_cancel' v2
  refine ⟨e1.symm, e2.symm, ?_, ?_⟩
  · rw [Int.natAbs_tdiv, Int.natAbs_tdiv]
    have e : (gcF n d).natAbs = Nat.gcd n.natAbs d.natAbs := Int.natAbs_natCast _
    rw [e]
    have pg : 0 < Nat.gcd n.natAbs d.natAbs := by unfold gcF at g1; omega
    show Nat.gcd (n.natAbs / Nat.gcd n.natAbs d.natAbs) (d.natAbs / Nat.gcd n.natAbs d.natAbs) = 1
    rw [Nat.gcd_div (Nat.gcd_dvd_left _ _) (Nat.gcd_dvd_right _ _), Nat.div_self pg]
  · have hd := h.1
    rcases Int.lt_or_le 0 (d.tdiv (gcF n d)) with q | q
    · omega
    · have : gcF n d * d.tdiv (gcF n d) ≤ 0 := Int.mul_nonpos_of_nonneg_of_nonpos (by omega) q
      omega
theorem rd_right {n d : Int} (h : FR n d) : FR (n.tdiv (gcF n d)) (d.tdiv (gcF n d)) := by
  obtain ⟨_, _, _, p⟩ := rd_parts h
  obtain ⟨g1, _⟩ := gcF_bd h
  have a := td_le n (gcF n d)
  have b := td_le d (gcF n d)
  unfold FR at h ⊢
  omega
theorem tdiv_one (x : Int) : x.tdiv ((1 : Nat) : Int) = x := Int.tdiv_one _
theorem rd_again {n d : Int} (h : FR n d) : rdN (rdN n d) (rdD n d) = rdN n d ∧ rdD (rdN n d) (rdD n d) = rdD n d := by
  have e1 : rdN n d = n.tdiv (gcF n d) := if_pos h
  have e2 : rdD n d = d.tdiv (gcF n d) := if_pos h
  have r := rd_right h
  obtain ⟨_, _, g, _⟩ := rd_parts h
  rw [e1, e2]
  have e : gcF (n.tdiv (gcF n d)) (d.tdiv (gcF n d)) = ((1 : Nat) : Int) := congrArg Int.ofNat g
  unfold rdN rdD
  rw [if_pos r, if_pos r, e]
  exact ⟨tdiv_one _, tdiv_one _⟩
theorem rd_same {n d : Int} (h : FR n d) : cmpF n d (rdN n d) (rdD n d) = 0 := by
  have e1 : rdN n d = n.tdiv (gcF n d) := if_pos h
  have e2 : rdD n d = d.tdiv (gcF n d) := if_pos h
  obtain ⟨p, q, _, _⟩ := rd_parts h
  rw [e1, e2, cmpF_right h (rd_right h)]
  refine ordI_eq ?_
  generalize n.tdiv (gcF n d) = a at *
  generalize d.tdiv (gcF n d) = b at *
  generalize gcF n d = g at *
  rw [p, q, Int.mul_right_comm, Int.mul_comm a, Int.mul_right_comm]
theorem low_unique {a b c d : Int} (hb : 1 ≤ b) (hd : 1 ≤ d) (h : Nat.gcd a.natAbs b.natAbs = 1) (k : Nat.gcd c.natAbs d.natAbs = 1) (e : a * d = c * b) : a = c ∧ b = d := by
  have n1 : a.natAbs * d.natAbs = c.natAbs * b.natAbs := by rw [← Int.natAbs_mul, ← Int.natAbs_mul, e]
  have d1 : b.natAbs ∣ d.natAbs := (Nat.Coprime.symm h).dvd_of_dvd_mul_left (⟨c.natAbs, by rw [n1, Nat.mul_comm]⟩)
  have d2 : d.natAbs ∣ b.natAbs := (Nat.Coprime.symm k).dvd_of_dvd_mul_left (⟨a.natAbs, by rw [← n1, Nat.mul_comm]⟩)
  have bd : b = d := by have := Nat.dvd_antisymm d1 d2; omega
  subst bd
  exact ⟨Int.eq_of_mul_eq_mul_right (by omega) e, rfl⟩
theorem rd_unique {n d p q : Int} (h : FR n d) (k : FR p q) : cmpF n d p q = 0 ↔ (rdN n d = rdN p q ∧ rdD n d = rdD p q) := by
  have e1 : rdN n d = n.tdiv (gcF n d) := if_pos h
  have e2 : rdD n d = d.tdiv (gcF n d) := if_pos h
  have e3 : rdN p q = p.tdiv (gcF p q) := if_pos k
  have e4 : rdD p q = q.tdiv (gcF p q) := if_pos k
  obtain ⟨a1, a2, a3, a4⟩ := rd_parts h
  obtain ⟨b1, b2, b3, b4⟩ := rd_parts k
  obtain ⟨g1, _⟩ := gcF_bd h
  obtain ⟨g2, _⟩ := gcF_bd k
  have z : cmpF n d p q = 0 ↔ n * q = p * d := by
    rw [cmpF_right h k]
    rcases ordI_ways (n * q) (p * d) with ⟨s, e⟩ | ⟨s, e⟩ | ⟨s, e⟩ <;> rw [e] <;> omega
  rw [z, e1, e2, e3, e4]
  generalize n.tdiv (gcF n d) = x at *
  generalize d.tdiv (gcF n d) = y at *
  generalize gcF n d = g at *
  generalize p.tdiv (gcF p q) = u at *
  generalize q.tdiv (gcF p q) = v at *
  generalize gcF p q = f at *
  subst a1 a2 b1 b2
  have r1 : g * x * (f * v) = g * f * (x * v) := by rw [Int.mul_assoc, Int.mul_left_comm x, ← Int.mul_assoc]
  have r2 : f * u * (g * y) = g * f * (u * y) := by rw [Int.mul_assoc, Int.mul_left_comm u, ← Int.mul_assoc, Int.mul_comm f]
  rw [r1, r2]
  constructor
  · intro e
    have gf : g * f ≠ 0 := by
      have := Int.mul_pos (show 0 < g by omega) (show 0 < f by omega)
      omega
    exact low_unique a4 b4 a3 b3 (Int.eq_of_mul_eq_mul_left gf e)
  · rintro ⟨rfl, rfl⟩; rfl
theorem rd_less {n d : Int} (h : FR n d) : rdD n d ≤ d := by
  have e2 : rdD n d = d.tdiv (gcF n d) := if_pos h
  obtain ⟨g1, _⟩ := gcF_bd h
  have b := td_le d (gcF n d)
  have := h.1
  omega
/-! Floor. -/
theorem flF_low {n d : Int} (h : FR n d) : FR (flF n d) 1 ∧ ¬ 0 < cmpF (flF n d) 1 n d := by
  have e : flF n d = n / d := if_pos h
  have p : 0 < d := by have := h.1; omega
  have m := Int.emod_nonneg n (show d ≠ 0 by omega)
  have s := Int.mul_ediv_add_emod n d
  have l := Int.emod_lt_of_pos n p
  have b1 : n / d ≤ 1000000000000000000 := Int.ediv_le_of_le_mul p (by have := h.2.2.2; have : 1000000000000000000 * 1 ≤ 1000000000000000000 * d := Int.mul_le_mul_of_nonneg_left h.1 (by omega); omega)
  have b2 : -1000000000000000000 ≤ n / d := Int.le_ediv_of_mul_le p (by have := h.2.2.1; have : 1000000000000000000 * 1 ≤ 1000000000000000000 * d := Int.mul_le_mul_of_nonneg_left h.1 (by omega); omega)
  have r : FR (n / d) 1 := ⟨by omega, by omega, b2, b1⟩
  rw [e]
  refine ⟨r, ?_⟩
  rw [cmpF_right r h, Int.mul_one]
  rw [Int.mul_comm] at s
  rcases ordI_ways (n / d * d) n with ⟨q, e⟩ | ⟨q, e⟩ | ⟨q, e⟩ <;> rw [e] <;> omega
theorem flF_high {n d : Int} (h : FR n d) (k : flF n d ≠ 1000000000000000000) : cmpF n d (flF n d + 1) 1 < 0 := by
  have e : flF n d = n / d := if_pos h
  have p : 0 < d := by have := h.1; omega
  have s := Int.mul_ediv_add_emod n d
  have l := Int.emod_lt_of_pos n p
  obtain ⟨r, _⟩ := flF_low h
  have r2 : FR (flF n d + 1) 1 := by unfold FR at r ⊢; omega
  rw [cmpF_right h r2, e, Int.mul_one, Int.add_mul, Int.one_mul]
  rw [Int.mul_comm] at s
  rw [ordI_lt (by omega)]; decide
end Go.Proofs.Ytbcbocnblkepcaa
