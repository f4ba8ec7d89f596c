/-
  Plain geometry: triangles that a line along an axis parts are parted by an edge of one of them. No program in sight.
-/
import Derived.Test.YthdcldbocakbpaaMtH
import Derived.Test.YthdcldbocakbpaaMtI
namespace Go.Proofs.Ythdcldbocakbpaa

def cr (a b c d : Int) : Int := a * d - b * c
theorem cr_anti (a b c d : Int) : cr c d a b = -cr a b c d := by unfold cr; grind
theorem cr_plk (a1 a2 b1 b2 c1 c2 : Int) : b1 * cr a1 a2 c1 c2 = a1 * cr b1 b2 c1 c2 + c1 * cr a1 a2 b1 b2 := by unfold cr; grind
theorem pos_of_mul {x y : Int} (hx : 0 ≤ x) (h : 0 < x * y) : 0 < y := by
  rcases Int.lt_or_le 0 y with k | k
  · exact k
  · have := mul_le0 hx k; omega
theorem nn_of_mul {x y : Int} (hx : 0 < x) (h : 0 ≤ x * y) : 0 ≤ y := by
  rcases Int.lt_or_le y 0 with k | k
  · have := Int.mul_neg_of_pos_of_neg hx k; omega
  · exact k
theorem cr_zero (b c d : Int) : cr 0 b c d = -b * c := by unfold cr; grind
/-- Of two pairs of ways, all to one side, and a way to that side: the lowest one is below it, or the highest one above it. -/
theorem sat_half {c1 c2 d1 d2 u1 u2 v1 v2 x1 x2 : Int} (hc : 0 ≤ c1) (hd : 0 ≤ d1) (hu : 0 ≤ u1) (hv : 0 ≤ v1) (hx : 0 < x1) (h1 : 0 < cr c1 c2 d1 d2) (h2 : 0 < cr u1 u2 v1 v2) (h : 0 ≤ cr c1 c2 u1 u2) :
    (0 < cr c1 c2 x1 x2 ∧ 0 ≤ cr c1 c2 u1 u2 ∧ 0 ≤ cr c1 c2 v1 v2) ∨ (0 < cr x1 x2 d1 d2 ∧ 0 ≤ cr u1 u2 d1 d2 ∧ 0 ≤ cr v1 v2 d1 d2) ∨ (0 < cr x1 x2 v1 v2 ∧ 0 ≤ cr c1 c2 v1 v2 ∧ 0 ≤ cr d1 d2 v1 v2) := by
  have down : c1 = 0 → 0 < -c2 := fun e => by
    subst e
    rw [cr_zero, Int.mul_comm] at h1
    exact pos_of_mul hd h1
  have strict : 0 < c1 → 0 < cr c1 c2 v1 v2 := fun k => by
    have e := cr_plk c1 c2 u1 u2 v1 v2
    have := Int.mul_pos k h2
    have := Int.mul_nonneg hv h
    exact pos_of_mul hu (by omega)
  have hcv : 0 ≤ cr c1 c2 v1 v2 := by
    rcases Int.lt_or_le 0 c1 with k | k
    · exact Int.le_of_lt (strict k)
    · obtain rfl : c1 = 0 := by omega
      rw [cr_zero]
      exact Int.mul_nonneg (Int.le_of_lt (down rfl)) hv
  rcases Int.lt_or_le 0 (cr c1 c2 x1 x2) with k | k
  · exact .inl ⟨k, h, hcv⟩
  have hc0 : 0 < c1 := by
    rcases Int.lt_or_le 0 c1 with q | q
    · exact q
    · obtain rfl : c1 = 0 := by omega
      rw [cr_zero] at k
      have := Int.mul_pos (down rfl) hx
      omega
  have over : ∀ {h1 h2 : Int}, 0 ≤ h1 → 0 < cr c1 c2 h1 h2 → 0 < cr x1 x2 h1 h2 := fun {y1 y2} hy q => by
    have e := cr_plk c1 c2 x1 x2 y1 y2
    have := Int.mul_pos hx q
    have := mul_le0 hy k
    exact pos_of_mul (Int.le_of_lt hc0) (by omega)
  rcases Int.lt_or_le (cr d1 d2 v1 v2) 0 with q | q
  · have hvd : 0 < cr v1 v2 d1 d2 := by rw [cr_anti d1 d2 v1 v2]; omega
    refine .inr (.inl ⟨over hd h1, ?_, Int.le_of_lt hvd⟩)
    rcases Int.lt_or_le 0 v1 with r | r
    · have e := cr_plk u1 u2 v1 v2 d1 d2
      have := Int.mul_nonneg hu (Int.le_of_lt hvd)
      have := Int.mul_nonneg hd (Int.le_of_lt h2)
      exact nn_of_mul r (by omega)
    · obtain rfl : v1 = 0 := by omega
      rw [cr_zero] at hvd
      have e2 : cr u1 u2 0 v2 = u1 * v2 := by unfold cr; grind
      rw [e2] at h2
      have hv2 := pos_of_mul hu h2
      have := mul_le0 hd (show -v2 ≤ 0 by omega)
      rw [Int.mul_comm] at this
      omega
  · exact .inr (.inr ⟨over hv (strict hc0), hcv, q⟩)
section
variable {p1 p2 q1 q2 r1 r2 x1 x2 y1 y2 z1 z2 : Int}
theorem sat_core (hA : 0 < ar p1 p2 q1 q2 r1 r2) (hD : 0 < ar x1 x2 y1 y2 z1 z2) (hq : q1 ≤ p1) (hr : r1 ≤ p1) (hy : x1 ≤ y1) (hz : x1 ≤ z1) (hd : p1 < x1) :
    (ar p1 p2 q1 q2 x1 x2 < 0 ∧ ar p1 p2 q1 q2 y1 y2 < 0 ∧ ar p1 p2 q1 q2 z1 z2 < 0) ∨ (ar r1 r2 p1 p2 x1 x2 < 0 ∧ ar r1 r2 p1 p2 y1 y2 < 0 ∧ ar r1 r2 p1 p2 z1 z2 < 0) ∨
    (ar x1 x2 y1 y2 p1 p2 < 0 ∧ ar x1 x2 y1 y2 q1 q2 < 0 ∧ ar x1 x2 y1 y2 r1 r2 < 0) ∨ (ar z1 z2 x1 x2 p1 p2 < 0 ∧ ar z1 z2 x1 x2 q1 q2 < 0 ∧ ar z1 z2 x1 x2 r1 r2 < 0) := by
  have eA : ar p1 p2 q1 q2 r1 r2 = cr (p1 - q1) (p2 - q2) (p1 - r1) (p2 - r2) := by unfold ar cr; grind
  have eD : ar x1 x2 y1 y2 z1 z2 = cr (y1 - x1) (y2 - x2) (z1 - x1) (z2 - x2) := by unfold ar cr; grind
  have a1 : ar p1 p2 q1 q2 x1 x2 = -cr (p1 - q1) (p2 - q2) (x1 - p1) (x2 - p2) := by unfold ar cr; grind
  have a2 : ar p1 p2 q1 q2 y1 y2 = -cr (p1 - q1) (p2 - q2) (x1 - p1) (x2 - p2) - cr (p1 - q1) (p2 - q2) (y1 - x1) (y2 - x2) := by unfold ar cr; grind
  have a3 : ar p1 p2 q1 q2 z1 z2 = -cr (p1 - q1) (p2 - q2) (x1 - p1) (x2 - p2) - cr (p1 - q1) (p2 - q2) (z1 - x1) (z2 - x2) := by unfold ar cr; grind
  have b1 : ar r1 r2 p1 p2 x1 x2 = -cr (x1 - p1) (x2 - p2) (p1 - r1) (p2 - r2) := by unfold ar cr; grind
  have b2 : ar r1 r2 p1 p2 y1 y2 = -cr (x1 - p1) (x2 - p2) (p1 - r1) (p2 - r2) - cr (y1 - x1) (y2 - x2) (p1 - r1) (p2 - r2) := by unfold ar cr; grind
  have b3 : ar r1 r2 p1 p2 z1 z2 = -cr (x1 - p1) (x2 - p2) (p1 - r1) (p2 - r2) - cr (z1 - x1) (z2 - x2) (p1 - r1) (p2 - r2) := by unfold ar cr; grind
  have d1 : ar x1 x2 y1 y2 p1 p2 = -cr (y1 - x1) (y2 - x2) (x1 - p1) (x2 - p2) := by unfold ar cr; grind
  have d2 : ar x1 x2 y1 y2 q1 q2 = -cr (y1 - x1) (y2 - x2) (x1 - p1) (x2 - p2) - cr (y1 - x1) (y2 - x2) (p1 - q1) (p2 - q2) := by unfold ar cr; grind
  have d3 : ar x1 x2 y1 y2 r1 r2 = -cr (y1 - x1) (y2 - x2) (x1 - p1) (x2 - p2) - cr (y1 - x1) (y2 - x2) (p1 - r1) (p2 - r2) := by unfold ar cr; grind
  have e1 : ar z1 z2 x1 x2 p1 p2 = -cr (x1 - p1) (x2 - p2) (z1 - x1) (z2 - x2) := by unfold ar cr; grind
  have e2 : ar z1 z2 x1 x2 q1 q2 = -cr (x1 - p1) (x2 - p2) (z1 - x1) (z2 - x2) - cr (p1 - q1) (p2 - q2) (z1 - x1) (z2 - x2) := by unfold ar cr; grind
  have e3 : ar z1 z2 x1 x2 r1 r2 = -cr (x1 - p1) (x2 - p2) (z1 - x1) (z2 - x2) - cr (p1 - r1) (p2 - r2) (z1 - x1) (z2 - x2) := by unfold ar cr; grind
  rw [eA] at hA
  rw [eD] at hD
  rw [a1, a2, a3, b1, b2, b3, d1, d2, d3, e1, e2, e3]
  clear eA eD a1 a2 a3 b1 b2 b3 d1 d2 d3 e1 e2 e3
  rcases Int.le_total 0 (cr (p1 - q1) (p2 - q2) (y1 - x1) (y2 - x2)) with h | h
  · rcases sat_half (x1 := x1 - p1) (x2 := x2 - p2) (by omega) (by omega) (by omega) (by omega) (by omega) hA hD h with k | k | k
    · exact .inl (by omega)
    · exact .inr (.inl (by omega))
    · exact .inr (.inr (.inr (by omega)))
  · have h' : 0 ≤ cr (y1 - x1) (y2 - x2) (p1 - q1) (p2 - q2) := by rw [cr_anti (p1 - q1) (p2 - q2)]; omega
    rcases sat_half (x1 := x1 - p1) (x2 := x2 - p2) (by omega) (by omega) (by omega) (by omega) (by omega) hD hA h' with k | k | k
    · exact .inr (.inr (.inl (by omega)))
    · exact .inr (.inr (.inr (by omega)))
    · exact .inr (.inl (by omega))
theorem eS_low {f1 f2 t1 t2 h1 h2 : Int} (hA : 0 < ar f1 f2 t1 t2 h1 h2) {u v : Int} (h : ar f1 f2 t1 t2 u v < 0) : eS f1 f2 t1 t2 h1 h2 u v = -1 := by
  rw [eS_el, sg_low]; exact Int.mul_neg_of_neg_of_pos h hA
theorem x3_low {f1 f2 t1 t2 h1 h2 d1 d2 e1 e2 g1 g2 : Int} (hA : 0 < ar f1 f2 t1 t2 h1 h2) (h : ar f1 f2 t1 t2 d1 d2 < 0 ∧ ar f1 f2 t1 t2 e1 e2 < 0 ∧ ar f1 f2 t1 t2 g1 g2 < 0) : x3 f1 f2 t1 t2 h1 h2 d1 d2 e1 e2 g1 g2 = -1 := by
  unfold x3; rw [eS_low hA h.1, eS_low hA h.2.1, eS_low hA h.2.2]; rfl
theorem mu_low {a1 a2 b1 b2 c1 c2 d1 d2 e1 e2 g1 g2 : Int} (h : r3 a1 a2 b1 b2 c1 c2 d1 d2 e1 e2 g1 g2 = -1 ∨ r3 d1 d2 e1 e2 g1 g2 a1 a2 b1 b2 c1 c2 = -1) : mu a1 a2 b1 b2 c1 c2 d1 d2 e1 e2 g1 g2 = -1 := by
  have i : -1 ≤ r3 a1 a2 b1 b2 c1 c2 d1 d2 e1 e2 g1 g2 := (rc_bd _ _ _ _ _ _ _ _).1
  have j : -1 ≤ r3 d1 d2 e1 e2 g1 g2 a1 a2 b1 b2 c1 c2 := (rc_bd _ _ _ _ _ _ _ _).1
  unfold mu; omega
theorem r3_low {a1 a2 b1 b2 c1 c2 d1 d2 e1 e2 g1 g2 : Int} (h : x3 a1 a2 b1 b2 c1 c2 d1 d2 e1 e2 g1 g2 = -1 ∨ x3 c1 c2 a1 a2 b1 b2 d1 d2 e1 e2 g1 g2 = -1) : r3 a1 a2 b1 b2 c1 c2 d1 d2 e1 e2 g1 g2 = -1 := by
  have i := (x3_bd a1 a2 b1 b2 c1 c2 d1 d2 e1 e2 g1 g2).1
  have j := (x3_bd b1 b2 c1 c2 a1 a2 d1 d2 e1 e2 g1 g2).1
  have k := (x3_bd c1 c2 a1 a2 b1 b2 d1 d2 e1 e2 g1 g2).1
  rw [r3_eq]; omega
theorem sep_pos (hA : 0 < ar p1 p2 q1 q2 r1 r2) (hD : 0 < ar x1 x2 y1 y2 z1 z2) (hq : q1 ≤ p1) (hr : r1 ≤ p1) (hy : x1 ≤ y1) (hz : x1 ≤ z1) (hd : p1 < x1) :
    mu p1 p2 q1 q2 r1 r2 x1 x2 y1 y2 z1 z2 = -1 := by
  rcases sat_core hA hD hq hr hy hz hd with k | k | k | k
  · exact mu_low (.inl (r3_low (.inl (x3_low hA k))))
  · exact mu_low (.inl (r3_low (.inr (x3_low (by rw [ar_turn2]; exact hA) k))))
  · exact mu_low (.inr (r3_low (.inl (x3_low hD k))))
  · exact mu_low (.inr (r3_low (.inr (x3_low (by rw [ar_turn2]; exact hD) k))))
theorem ar_swap23 : ar p1 p2 r1 r2 q1 q2 = -ar p1 p2 q1 q2 r1 r2 := by unfold ar; grind
theorem mu_swapA23 : mu p1 p2 r1 r2 q1 q2 x1 x2 y1 y2 z1 z2 = mu p1 p2 q1 q2 r1 r2 x1 x2 y1 y2 z1 z2 := by
  rw [mu_turnA q1 q2 p1 p2 r1 r2, mu_swapA p1 p2 q1 q2 r1 r2]
theorem mu_swapD23 : mu p1 p2 q1 q2 r1 r2 x1 x2 z1 z2 y1 y2 = mu p1 p2 q1 q2 r1 r2 x1 x2 y1 y2 z1 z2 := by
  rw [mu_turnD p1 p2 q1 q2 r1 r2 y1 y2 x1 x2 z1 z2, mu_swapD p1 p2 q1 q2 r1 r2 x1 x2 y1 y2 z1 z2]
theorem sep_A (hA : ar p1 p2 q1 q2 r1 r2 ≠ 0) (hD : 0 < ar x1 x2 y1 y2 z1 z2) (hq : q1 ≤ p1) (hr : r1 ≤ p1) (hy : x1 ≤ y1) (hz : x1 ≤ z1) (hd : p1 < x1) :
    mu p1 p2 q1 q2 r1 r2 x1 x2 y1 y2 z1 z2 = -1 := by
  rcases Int.lt_or_lt_of_ne hA with k | k
  · rw [← mu_swapA23]; exact sep_pos (by rw [ar_swap23]; omega) hD hr hq hy hz hd
  · exact sep_pos k hD hq hr hy hz hd
theorem sep_AD (hA : ar p1 p2 q1 q2 r1 r2 ≠ 0) (hD : ar x1 x2 y1 y2 z1 z2 ≠ 0) (hq : q1 ≤ p1) (hr : r1 ≤ p1) (hy : x1 ≤ y1) (hz : x1 ≤ z1) (hd : p1 < x1) :
    mu p1 p2 q1 q2 r1 r2 x1 x2 y1 y2 z1 z2 = -1 := by
  rcases Int.lt_or_lt_of_ne hD with k | k
  · rw [← mu_swapD23]; exact sep_A hA (by rw [ar_swap23]; omega) hq hr hz hy hd
  · exact sep_A hA k hq hr hy hz hd
theorem sep_D (hA : ar p1 p2 q1 q2 r1 r2 ≠ 0) (hD : ar x1 x2 y1 y2 z1 z2 ≠ 0) (hq : q1 ≤ p1) (hr : r1 ≤ p1) (hd : p1 < min (min x1 y1) z1) :
    mu p1 p2 q1 q2 r1 r2 x1 x2 y1 y2 z1 z2 = -1 := by
  rcases (show (x1 ≤ y1 ∧ x1 ≤ z1) ∨ (y1 ≤ z1 ∧ y1 ≤ x1) ∨ (z1 ≤ x1 ∧ z1 ≤ y1) by omega) with k | k | k
  · exact sep_AD hA hD hq hr k.1 k.2 (by omega)
  · rw [← mu_turnD]; exact sep_AD hA (by rw [ar_turn]; exact hD) hq hr k.1 k.2 (by omega)
  · rw [← mu_turnD, ← mu_turnD]; exact sep_AD hA (by rw [ar_turn2]; exact hD) hq hr k.1 k.2 (by omega)
theorem sep_x (hA : ar p1 p2 q1 q2 r1 r2 ≠ 0) (hD : ar x1 x2 y1 y2 z1 z2 ≠ 0) (hd : max (max p1 q1) r1 < min (min x1 y1) z1) :
    mu p1 p2 q1 q2 r1 r2 x1 x2 y1 y2 z1 z2 = -1 := by
  rcases (show (q1 ≤ p1 ∧ r1 ≤ p1) ∨ (r1 ≤ q1 ∧ p1 ≤ q1) ∨ (p1 ≤ r1 ∧ q1 ≤ r1) by omega) with k | k | k
  · exact sep_D hA hD k.1 k.2 (by omega)
  · rw [← mu_turnA]; exact sep_D (by rw [ar_turn]; exact hA) hD k.1 k.2 (by omega)
  · rw [← mu_turnA, ← mu_turnA]; exact sep_D (by rw [ar_turn2]; exact hA) hD k.1 k.2 (by omega)
theorem sep_y (hA : ar p1 p2 q1 q2 r1 r2 ≠ 0) (hD : ar x1 x2 y1 y2 z1 z2 ≠ 0) (hd : max (max p2 q2) r2 < min (min x2 y2) z2) :
    mu p1 p2 q1 q2 r1 r2 x1 x2 y1 y2 z1 z2 = -1 := by
  rw [← mu_flip]; exact sep_x (by rw [ar_flip]; omega) (by rw [ar_flip]; omega) hd
/-- A triangle overlaps itself; its corners lie on its rim. -/
theorem mu_self (hA : ar p1 p2 q1 q2 r1 r2 ≠ 0) : mu p1 p2 q1 q2 r1 r2 p1 p2 q1 q2 r1 r2 = 1 := by
  have hB : ar q1 q2 r1 r2 p1 p2 ≠ 0 := by rw [ar_turn]; exact hA
  have hC : ar r1 r2 p1 p2 q1 q2 ≠ 0 := by rw [ar_turn2]; exact hA
  have e1 : x3 p1 p2 q1 q2 r1 r2 p1 p2 q1 q2 r1 r2 = 1 := by unfold x3; rw [eS_from, eS_to, eS_third hA]; rfl
  have e2 : x3 q1 q2 r1 r2 p1 p2 p1 p2 q1 q2 r1 r2 = 1 := by unfold x3; rw [eS_from, eS_to, eS_third hB]; rfl
  have e3 : x3 r1 r2 p1 p2 q1 q2 p1 p2 q1 q2 r1 r2 = 1 := by unfold x3; rw [eS_from, eS_to, eS_third hC]; rfl
  unfold mu; rw [r3_eq, e1, e2, e3]; rfl
end
theorem r1_self {a1 a2 b1 b2 c1 c2 : Int} (hA : ar a1 a2 b1 b2 c1 c2 ≠ 0) : r1 a1 a2 b1 b2 c1 c2 a1 a2 = 0 ∧ r1 a1 a2 b1 b2 c1 c2 b1 b2 = 0 ∧ r1 a1 a2 b1 b2 c1 c2 c1 c2 = 0 := by
  have hB : ar b1 b2 c1 c2 a1 a2 ≠ 0 := by rw [ar_turn]; exact hA
  have hC : ar c1 c2 a1 a2 b1 b2 ≠ 0 := by rw [ar_turn2]; exact hA
  refine ⟨?_, ?_, ?_⟩
  · rw [r1_is, eS_from, eS_to, eS_third hB]; rfl
  · rw [r1_is, eS_from, eS_to, eS_third hC]; rfl
  · rw [r1_is, eS_from, eS_to, eS_third hA]; rfl
end Go.Proofs.Ythdcldbocakbpaa
