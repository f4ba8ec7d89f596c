/-
  Plain geometry: squares that have a point of a triangle. No program in sight.
-/
import Derived.Test.YthdcldbocakbpaaMtG
namespace Go.Proofs.Ythdcldbocakbpaa

theorem mul_up {u a b : Int} (hu : 0 ≤ u) (h : a ≤ b) : u * a ≤ u * b := Int.mul_le_mul_of_nonneg_left h hu
theorem mul_down {u a b : Int} (hu : u ≤ 0) (h : a ≤ b) : u * b ≤ u * a := Int.mul_le_mul_of_nonpos_left hu h
/-- What is affine and 0 or more at a point of a rectangle is so at one of its corners. -/
theorem box_nn {x y fx fy p q : Int} (h1 : x ≤ p) (h2 : p ≤ fx) (h3 : y ≤ q) (h4 : q ≤ fy) (u v z : Int) (hg : 0 ≤ u * p + v * q + z) :
    0 ≤ u * x + v * y + z ∨ 0 ≤ u * fx + v * y + z ∨ 0 ≤ u * fx + v * fy + z ∨ 0 ≤ u * x + v * fy + z := by
  rcases Int.le_total 0 u with hu | hu <;> rcases Int.le_total 0 v with hv | hv
  · have := mul_up hu h2
    have := mul_up hv h4
    exact .inr (.inr (.inl (by omega)))
  · have := mul_up hu h2
    have := mul_down hv h3
    exact .inr (.inl (by omega))
  · have := mul_down hu h1
    have := mul_up hv h4
    exact .inr (.inr (.inr (by omega)))
  · have := mul_down hu h1
    have := mul_down hv h3
    exact .inl (by omega)
theorem x4_nn {f1 f2 t1 t2 h1 h2 x y fx fy p q : Int} (i1 : x ≤ p) (i2 : p ≤ fx) (i3 : y ≤ q) (i4 : q ≤ fy) (k : 0 ≤ eS f1 f2 t1 t2 h1 h2 p q) : 0 ≤ x4 f1 f2 t1 t2 h1 h2 x y fx y fx fy x fy := by
  rw [eS_el, sg_nn, el_aff] at k
  have m := box_nn i1 i2 i3 i4 _ _ _ k
  rw [← el_aff f1 f2 t1 t2 h1 h2 x y, ← el_aff f1 f2 t1 t2 h1 h2 fx y, ← el_aff f1 f2 t1 t2 h1 h2 fx fy, ← el_aff f1 f2 t1 t2 h1 h2 x fy] at m
  unfold x4 x3
  rcases m with m | m | m | m <;> (replace m := sg_nn.2 m; rw [← eS_el] at m; omega)
theorem x4_grow {f1 f2 t1 t2 h1 h2 x y fx fy gx gy : Int} (i1 : x ≤ fx) (i2 : y ≤ fy) (i3 : fx ≤ gx) (i4 : fy ≤ gy) (k : 0 ≤ x4 f1 f2 t1 t2 h1 h2 x y fx y fx fy x fy) : 0 ≤ x4 f1 f2 t1 t2 h1 h2 x y gx y gx gy x gy := by
  have m : 0 ≤ eS f1 f2 t1 t2 h1 h2 x y ∨ 0 ≤ eS f1 f2 t1 t2 h1 h2 fx y ∨ 0 ≤ eS f1 f2 t1 t2 h1 h2 fx fy ∨ 0 ≤ eS f1 f2 t1 t2 h1 h2 x fy := by unfold x4 x3 at k; omega
  rcases m with m | m | m | m
  · exact x4_nn (Int.le_refl _) (by omega) (Int.le_refl _) (by omega) m
  · exact x4_nn i1 i3 (Int.le_refl _) (by omega) m
  · exact x4_nn i1 i3 i2 i4 m
  · exact x4_nn (Int.le_refl _) (by omega) i2 i4 m
section
variable {a1 a2 b1 b2 c1 c2 x y fx fy gx gy p q : Int}
theorem r4_nn (i1 : x ≤ p) (i2 : p ≤ fx) (i3 : y ≤ q) (i4 : q ≤ fy) (k : 0 ≤ r1 a1 a2 b1 b2 c1 c2 p q) : 0 ≤ r4 a1 a2 b1 b2 c1 c2 x y fx y fx fy x fy := by
  rw [r1_is] at k
  rw [r4_eq]
  have q0 := x4_nn (f1 := a1) (f2 := a2) (t1 := b1) (t2 := b2) (h1 := c1) (h2 := c2) i1 i2 i3 i4 (by omega)
  have q1 := x4_nn (f1 := b1) (f2 := b2) (t1 := c1) (t2 := c2) (h1 := a1) (h2 := a2) i1 i2 i3 i4 (by omega)
  have q2 := x4_nn (f1 := c1) (f2 := c2) (t1 := a1) (t2 := a2) (h1 := b1) (h2 := b2) i1 i2 i3 i4 (by omega)
  omega
theorem r4_grow (i1 : x ≤ fx) (i2 : y ≤ fy) (i3 : fx ≤ gx) (i4 : fy ≤ gy) (k : 0 ≤ r4 a1 a2 b1 b2 c1 c2 x y fx y fx fy x fy) : 0 ≤ r4 a1 a2 b1 b2 c1 c2 x y gx y gx gy x gy := by
  rw [r4_eq] at k
  rw [r4_eq]
  have q0 := x4_grow (f1 := a1) (f2 := a2) (t1 := b1) (t2 := b2) (h1 := c1) (h2 := c2) i1 i2 i3 i4 (by omega)
  have q1 := x4_grow (f1 := b1) (f2 := b2) (t1 := c1) (t2 := c2) (h1 := a1) (h2 := a2) i1 i2 i3 i4 (by omega)
  have q2 := x4_grow (f1 := c1) (f2 := c2) (t1 := a1) (t2 := a2) (h1 := b1) (h2 := b2) i1 i2 i3 i4 (by omega)
  omega
theorem cB_iff : cB x y fx fy a1 a2 b1 b2 c1 c2 = true ↔ min (min a1 b1) c1 ≤ fx ∧ min (min a2 b2) c2 ≤ fy ∧ x ≤ max (max a1 b1) c1 ∧ y ≤ max (max a2 b2) c2 := by
  unfold cB; simp only [Bool.and_eq_true, decide_eq_true_eq, and_assoc]
/-- A point of a triangle lies within the triangle's rectangle. -/
theorem within_box (h : Within a1 a2 b1 b2 c1 c2 p q) : min (min a1 b1) c1 ≤ p ∧ p ≤ max (max a1 b1) c1 ∧ min (min a2 b2) c2 ≤ q ∧ q ≤ max (max a2 b2) c2 := by
  refine ⟨?_, ?_, ?_, ?_⟩
  · rcases within_nn h (-1) 0 p (by omega) with k | k | k <;> omega
  · rcases within_nn h 1 0 (-p) (by omega) with k | k | k <;> omega
  · rcases within_nn h 0 (-1) q (by omega) with k | k | k <;> omega
  · rcases within_nn h 0 1 (-q) (by omega) with k | k | k <;> omega
theorem r4_bd (e1 e2 f1 f2 g1 g2 h1 h2 : Int) : -1 ≤ r4 a1 a2 b1 b2 c1 c2 e1 e2 f1 f2 g1 g2 h1 h2 := (rc_bd _ _ _ _ _ _ _ _).1
theorem ne_low {m : Int} (h : -1 ≤ m) : (m != -1) = true ↔ 0 ≤ m := by
  rw [bne_iff_ne]; omega
theorem sqV_point {s : Int} (hs : sqS x y s = true) (ht : rT a1 a2 b1 b2 c1 c2 = true) (k : 0 ≤ r1 a1 a2 b1 b2 c1 c2 p q) (i1 : x ≤ p) (i2 : y ≤ q) (i3 : p - s ≤ x) (i4 : q - s ≤ y) : sqV x y s a1 a2 b1 b2 c1 c2 = true := by
  obtain ⟨j1, j2, j3, j4⟩ := within_box (within_of (rT_iff.1 ht).2.2.2 k)
  unfold sqV
  rw [hs, ht, cB_iff.2 ⟨by omega, by omega, by omega, by omega⟩, (ne_low (r4_bd _ _ _ _ _ _ _ _)).2 (r4_nn (p := p) (q := q) i1 (by omega) i2 (by omega) k)]
  rfl
theorem sqV_grow {s : Int} (h : sqV x y s a1 a2 b1 b2 c1 c2 = true) (hs : sqS x y (s + 1) = true) : sqV x y (s + 1) a1 a2 b1 b2 c1 c2 = true := by
  unfold sqV at h
  simp only [Bool.and_eq_true, and_assoc] at h
  obtain ⟨h1, h2, h3, h4⟩ := h
  have b := sqS_iff.1 h1
  have c := cB_iff.1 h3
  unfold sqV
  rw [hs, h2, cB_iff.2 ⟨by omega, by omega, c.2.2.1, c.2.2.2⟩, (ne_low (r4_bd _ _ _ _ _ _ _ _)).2 (r4_grow (fx := x + s) (fy := y + s) (by omega) (by omega) (by omega) (by omega) ((ne_low (r4_bd _ _ _ _ _ _ _ _)).1 h4))]
  rfl
theorem sqV_no {s : Int} (t : Bool) (h : sqE (sqS x y s) t ≠ 0) (ht : rT a1 a2 b1 b2 c1 c2 = t) : sqV x y s a1 a2 b1 b2 c1 c2 = false := by
  unfold sqE at h
  unfold sqV
  rw [ht]
  cases hs : sqS x y s <;> cases t <;> simp_all
end
end Go.Proofs.Ythdcldbocakbpaa
