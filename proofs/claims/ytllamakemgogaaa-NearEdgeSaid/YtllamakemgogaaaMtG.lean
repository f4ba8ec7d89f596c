/-
  Plain geometry of triangles in a plane: points within, turns, squares. No program in sight.
-/
import Derived.Test.YtllamakemgogaaaMtF
namespace Go.Proofs.Ytllamakemgogaaa

theorem sg_mul (x y : Int) : ordI x 0 * ordI y 0 = ordI (x * y) 0 := by
  rcases Int.lt_trichotomy x 0 with h | h | h <;> rcases Int.lt_trichotomy y 0 with k | k | k
  · rw [ordI_lt h, ordI_lt k, ordI_gt (Int.mul_pos_of_neg_of_neg h k)]; rfl
  · subst k; rw [Int.mul_zero, ordI_eq rfl]; simp
  · rw [ordI_lt h, ordI_gt k, ordI_lt (Int.mul_neg_of_neg_of_pos h k)]; rfl
  · subst h; rw [Int.zero_mul, ordI_eq rfl]; simp
  · subst h; rw [Int.zero_mul, ordI_eq rfl]; simp
  · subst h; rw [Int.zero_mul, ordI_eq rfl]; simp
  · rw [ordI_gt h, ordI_lt k, ordI_lt (Int.mul_neg_of_pos_of_neg h k)]; rfl
  · subst k; rw [Int.mul_zero, ordI_eq rfl]; simp
  · rw [ordI_gt h, ordI_gt k, ordI_gt (Int.mul_pos h k)]; rfl
theorem sg_neg (x : Int) : ordI (-x) 0 = -ordI x 0 := by
  rcases Int.lt_trichotomy x 0 with h | h | h
  · rw [ordI_lt h, ordI_gt (by omega)]; rfl
  · subst h; rfl
  · rw [ordI_gt h, ordI_lt (by omega)]
theorem sg_pos {x : Int} : ordI x 0 = 1 ↔ 0 < x := by
  rcases ordI_ways x 0 with ⟨h, e⟩ | ⟨h, e⟩ | ⟨h, e⟩ <;> rw [e] <;> omega
theorem sg_nn {x : Int} : 0 ≤ ordI x 0 ↔ 0 ≤ x := by
  rcases ordI_ways x 0 with ⟨h, e⟩ | ⟨h, e⟩ | ⟨h, e⟩ <;> rw [e] <;> omega
theorem sg_low {x : Int} : ordI x 0 = -1 ↔ x < 0 := by
  rcases ordI_ways x 0 with ⟨h, e⟩ | ⟨h, e⟩ | ⟨h, e⟩ <;> rw [e] <;> omega

/-- An edge's side of a point, as a number: above 0 on the inner side. -/
def el (f1 f2 t1 t2 h1 h2 p1 p2 : Int) : Int := ar f1 f2 t1 t2 p1 p2 * ar f1 f2 t1 t2 h1 h2
theorem eS_el (f1 f2 t1 t2 h1 h2 p1 p2 : Int) : eS f1 f2 t1 t2 h1 h2 p1 p2 = ordI (el f1 f2 t1 t2 h1 h2 p1 p2) 0 := sg_mul _ _
theorem ar_turn (a b c d e f : Int) : ar c d e f a b = ar a b c d e f := by unfold ar; grind
theorem ar_swap (a b c d e f : Int) : ar c d a b e f = -ar a b c d e f := by unfold ar; grind
theorem ar_flip (a b c d e f : Int) : ar b a d c f e = -ar a b c d e f := by unfold ar; grind
theorem ar_self (a b c d : Int) : ar a b c d a b = 0 := by unfold ar; grind
theorem ar_self2 (a b c d : Int) : ar a b c d c d = 0 := by unfold ar; grind
theorem eS_swap (f1 f2 t1 t2 h1 h2 p1 p2 : Int) : eS t1 t2 f1 f2 h1 h2 p1 p2 = eS f1 f2 t1 t2 h1 h2 p1 p2 := by
  unfold eS; rw [ar_swap f1 f2 t1 t2 p1 p2, ar_swap f1 f2 t1 t2 h1 h2, sg_neg, sg_neg, Int.neg_mul_neg]
theorem eS_flip (f1 f2 t1 t2 h1 h2 p1 p2 : Int) : eS f2 f1 t2 t1 h2 h1 p2 p1 = eS f1 f2 t1 t2 h1 h2 p1 p2 := by
  unfold eS; rw [ar_flip f1 f2 t1 t2 p1 p2, ar_flip f1 f2 t1 t2 h1 h2, sg_neg, sg_neg, Int.neg_mul_neg]
theorem eS_from (f1 f2 t1 t2 h1 h2 : Int) : eS f1 f2 t1 t2 h1 h2 f1 f2 = 0 := by unfold eS; rw [ar_self, ordI_eq rfl]; simp
theorem eS_to (f1 f2 t1 t2 h1 h2 : Int) : eS f1 f2 t1 t2 h1 h2 t1 t2 = 0 := by unfold eS; rw [ar_self2, ordI_eq rfl]; simp
theorem eS_third {f1 f2 t1 t2 h1 h2 : Int} (h : ar f1 f2 t1 t2 h1 h2 ≠ 0) : eS f1 f2 t1 t2 h1 h2 h1 h2 = 1 := by
  unfold eS
  rcases ordI_ways (ar f1 f2 t1 t2 h1 h2) 0 with ⟨_, e⟩ | ⟨k, _⟩ | ⟨_, e⟩
  · rw [e]; rfl
  · exact absurd k h
  · rw [e]; rfl

/-- The greatest side of three points. -/
def x3 (f1 f2 t1 t2 h1 h2 d1 d2 e1 e2 g1 g2 : Int) : Int := max (max (eS f1 f2 t1 t2 h1 h2 d1 d2) (eS f1 f2 t1 t2 h1 h2 e1 e2)) (eS f1 f2 t1 t2 h1 h2 g1 g2)
theorem x3_bd (f1 f2 t1 t2 h1 h2 d1 d2 e1 e2 g1 g2 : Int) : -1 ≤ x3 f1 f2 t1 t2 h1 h2 d1 d2 e1 e2 g1 g2 ∧ x3 f1 f2 t1 t2 h1 h2 d1 d2 e1 e2 g1 g2 ≤ 1 := by
  have i0 := eS_bd f1 f2 t1 t2 h1 h2 d1 d2
  have i1 := eS_bd f1 f2 t1 t2 h1 h2 e1 e2
  have i2 := eS_bd f1 f2 t1 t2 h1 h2 g1 g2
  unfold x3; omega
theorem mx_3 (s : Nat → Int) : mx s 3 = max (max (max (-1) (s 0)) (s 1)) (s 2) := rfl
theorem mx_4 (s : Nat → Int) : mx s 4 = max (max (max (max (-1) (s 0)) (s 1)) (s 2)) (s 3) := rfl
theorem max_low3 {x y z : Int} (h : -1 ≤ x) : max (max (max (-1) x) y) z = max (max x y) z := by
  rw [Int.max_eq_right h]
theorem max_low4 {x y z u : Int} (h : -1 ≤ x) : max (max (max (max (-1) x) y) z) u = max (max (max x y) z) u := by
  rw [Int.max_eq_right h]
theorem min_high3 {u v w : Int} (h : u ≤ 1) : min (min (min 1 u) v) w = min (min u v) w := by
  rw [Int.min_eq_right h]
theorem r3_eq (a1 a2 b1 b2 c1 c2 d1 d2 e1 e2 g1 g2 : Int) :
    r3 a1 a2 b1 b2 c1 c2 d1 d2 e1 e2 g1 g2 = min (min (x3 a1 a2 b1 b2 c1 c2 d1 d2 e1 e2 g1 g2) (x3 b1 b2 c1 c2 a1 a2 d1 d2 e1 e2 g1 g2)) (x3 c1 c2 a1 a2 b1 b2 d1 d2 e1 e2 g1 g2) := by
  unfold r3 rc
  rw [mx_3, mx_3, mx_3, max_low3 (eS_bd _ _ _ _ _ _ _ _).1, max_low3 (eS_bd _ _ _ _ _ _ _ _).1, max_low3 (eS_bd _ _ _ _ _ _ _ _).1]
  exact min_high3 (x3_bd a1 a2 b1 b2 c1 c2 d1 d2 e1 e2 g1 g2).2
theorem r1_is (a1 a2 b1 b2 c1 c2 x y : Int) : r1 a1 a2 b1 b2 c1 c2 x y = min (min (eS a1 a2 b1 b2 c1 c2 x y) (eS b1 b2 c1 c2 a1 a2 x y)) (eS c1 c2 a1 a2 b1 b2 x y) := by
  have h0 := eS_bd a1 a2 b1 b2 c1 c2 x y
  have h1 := eS_bd b1 b2 c1 c2 a1 a2 x y
  have h2 := eS_bd c1 c2 a1 a2 b1 b2 x y
  show min (min (min 1 (max (-1) (eS a1 a2 b1 b2 c1 c2 x y))) (max (-1) (eS b1 b2 c1 c2 a1 a2 x y))) (max (-1) (eS c1 c2 a1 a2 b1 b2 x y)) = _
  omega
def x4 (f1 f2 t1 t2 h1 h2 d1 d2 e1 e2 g1 g2 k1 k2 : Int) : Int := max (x3 f1 f2 t1 t2 h1 h2 d1 d2 e1 e2 g1 g2) (eS f1 f2 t1 t2 h1 h2 k1 k2)
theorem x4_bd (f1 f2 t1 t2 h1 h2 d1 d2 e1 e2 g1 g2 k1 k2 : Int) : -1 ≤ x4 f1 f2 t1 t2 h1 h2 d1 d2 e1 e2 g1 g2 k1 k2 ∧ x4 f1 f2 t1 t2 h1 h2 d1 d2 e1 e2 g1 g2 k1 k2 ≤ 1 := by
  have i0 := x3_bd f1 f2 t1 t2 h1 h2 d1 d2 e1 e2 g1 g2
  have i1 := eS_bd f1 f2 t1 t2 h1 h2 k1 k2
  unfold x4; omega
theorem r4_eq (a1 a2 b1 b2 c1 c2 d1 d2 e1 e2 g1 g2 k1 k2 : Int) :
    r4 a1 a2 b1 b2 c1 c2 d1 d2 e1 e2 g1 g2 k1 k2 = min (min (x4 a1 a2 b1 b2 c1 c2 d1 d2 e1 e2 g1 g2 k1 k2) (x4 b1 b2 c1 c2 a1 a2 d1 d2 e1 e2 g1 g2 k1 k2)) (x4 c1 c2 a1 a2 b1 b2 d1 d2 e1 e2 g1 g2 k1 k2) := by
  unfold r4 rc
  rw [mx_4, mx_4, mx_4, max_low4 (eS_bd _ _ _ _ _ _ _ _).1, max_low4 (eS_bd _ _ _ _ _ _ _ _).1, max_low4 (eS_bd _ _ _ _ _ _ _ _).1]
  exact min_high3 (x4_bd a1 a2 b1 b2 c1 c2 d1 d2 e1 e2 g1 g2 k1 k2).2

/-- What is affine: at a point of a triangle, by its three corners. -/
theorem bary (a1 a2 b1 b2 c1 c2 p1 p2 u v z : Int) :
    ar a1 a2 b1 b2 c1 c2 * (u * p1 + v * p2 + z) = ar b1 b2 c1 c2 p1 p2 * (u * a1 + v * a2 + z) + ar c1 c2 a1 a2 p1 p2 * (u * b1 + v * b2 + z) + ar a1 a2 b1 b2 p1 p2 * (u * c1 + v * c2 + z) := by
  unfold ar; grind
theorem weights (a1 a2 b1 b2 c1 c2 p1 p2 : Int) : ar a1 a2 b1 b2 c1 c2 = ar b1 b2 c1 c2 p1 p2 + ar c1 c2 a1 a2 p1 p2 + ar a1 a2 b1 b2 p1 p2 := by unfold ar; grind
theorem mul_le0 {x y : Int} (hx : 0 ≤ x) (hy : y ≤ 0) : x * y ≤ 0 := by
  have := Int.mul_nonneg hx (show 0 ≤ -y by omega); rw [Int.mul_neg] at this; omega
theorem comb_pos {s w1 w2 w3 g g1 g2 g3 : Int} (hs : 0 < s) (h1 : 0 ≤ w1) (h2 : 0 ≤ w2) (h3 : 0 ≤ w3) (e : s * g = w1 * g1 + w2 * g2 + w3 * g3) (hg : 0 < g) : 0 < g1 ∨ 0 < g2 ∨ 0 < g3 := by
  rcases Int.lt_or_le 0 g1 with k1 | k1
  · exact .inl k1
  rcases Int.lt_or_le 0 g2 with k2 | k2
  · exact .inr (.inl k2)
  rcases Int.lt_or_le 0 g3 with k3 | k3
  · exact .inr (.inr k3)
  have := Int.mul_pos hs hg
  have := mul_le0 h1 k1
  have := mul_le0 h2 k2
  have := mul_le0 h3 k3
  omega
theorem comb_nn {s w1 w2 w3 g g1 g2 g3 : Int} (hs : 0 < s) (h1 : 0 ≤ w1) (h2 : 0 ≤ w2) (h3 : 0 ≤ w3) (hw : s = w1 + w2 + w3) (e : s * g = w1 * g1 + w2 * g2 + w3 * g3) (hg : 0 ≤ g) : 0 ≤ g1 ∨ 0 ≤ g2 ∨ 0 ≤ g3 := by
  have e' : s * (g + 1) = w1 * (g1 + 1) + w2 * (g2 + 1) + w3 * (g3 + 1) := by
    rw [Int.mul_add, Int.mul_add, Int.mul_add, Int.mul_add]; omega
  rcases comb_pos hs h1 h2 h3 e' (by omega) with k | k | k
  · exact .inl (by omega)
  · exact .inr (.inl (by omega))
  · exact .inr (.inr (by omega))
/-- A point of a closed triangle: what is affine and 0 or more there is so at a corner. -/
def Within (a1 a2 b1 b2 c1 c2 p1 p2 : Int) : Prop := ar a1 a2 b1 b2 c1 c2 ≠ 0 ∧ 0 ≤ el a1 a2 b1 b2 c1 c2 p1 p2 ∧ 0 ≤ el b1 b2 c1 c2 a1 a2 p1 p2 ∧ 0 ≤ el c1 c2 a1 a2 b1 b2 p1 p2
theorem within_of {a1 a2 b1 b2 c1 c2 p1 p2 : Int} (h : ar a1 a2 b1 b2 c1 c2 ≠ 0) (k : 0 ≤ r1 a1 a2 b1 b2 c1 c2 p1 p2) : Within a1 a2 b1 b2 c1 c2 p1 p2 := by
  rw [r1_is, eS_el, eS_el, eS_el] at k
  exact ⟨h, sg_nn.1 (by omega), sg_nn.1 (by omega), sg_nn.1 (by omega)⟩
theorem sq_pos {x : Int} (h : x ≠ 0) : 0 < x * x := by
  rcases Int.lt_or_lt_of_ne h with k | k
  · exact Int.mul_pos_of_neg_of_neg k k
  · exact Int.mul_pos k k
theorem within_eq {a1 a2 b1 b2 c1 c2 p1 p2 : Int} (u v z : Int) :
    (ar a1 a2 b1 b2 c1 c2 * ar a1 a2 b1 b2 c1 c2) * (u * p1 + v * p2 + z) = el b1 b2 c1 c2 a1 a2 p1 p2 * (u * a1 + v * a2 + z) + el c1 c2 a1 a2 b1 b2 p1 p2 * (u * b1 + v * b2 + z) + el a1 a2 b1 b2 c1 c2 p1 p2 * (u * c1 + v * c2 + z) := by
  have h := bary a1 a2 b1 b2 c1 c2 p1 p2 u v z
  unfold el
  rw [ar_turn a1 a2 b1 b2 c1 c2, show ar c1 c2 a1 a2 b1 b2 = ar a1 a2 b1 b2 c1 c2 from by rw [ar_turn b1 b2 c1 c2 a1 a2, ar_turn]]
  generalize ar a1 a2 b1 b2 c1 c2 = A at *
  generalize u * p1 + v * p2 + z = g at *
  generalize u * a1 + v * a2 + z = g1 at *
  generalize u * b1 + v * b2 + z = g2 at *
  generalize u * c1 + v * c2 + z = g3 at *
  generalize ar b1 b2 c1 c2 p1 p2 = w1 at *
  generalize ar c1 c2 a1 a2 p1 p2 = w2 at *
  generalize ar a1 a2 b1 b2 p1 p2 = w3 at *
  rw [Int.mul_assoc, h]
  grind
theorem within_sum {a1 a2 b1 b2 c1 c2 p1 p2 : Int} :
    ar a1 a2 b1 b2 c1 c2 * ar a1 a2 b1 b2 c1 c2 = el b1 b2 c1 c2 a1 a2 p1 p2 + el c1 c2 a1 a2 b1 b2 p1 p2 + el a1 a2 b1 b2 c1 c2 p1 p2 := by
  have h := within_eq (a1 := a1) (a2 := a2) (b1 := b1) (b2 := b2) (c1 := c1) (c2 := c2) (p1 := p1) (p2 := p2) 0 0 1
  simpa using h
theorem within_pos {a1 a2 b1 b2 c1 c2 p1 p2 : Int} (h : Within a1 a2 b1 b2 c1 c2 p1 p2) (u v z : Int) (hg : 0 < u * p1 + v * p2 + z) : 0 < u * a1 + v * a2 + z ∨ 0 < u * b1 + v * b2 + z ∨ 0 < u * c1 + v * c2 + z :=
  comb_pos (sq_pos h.1) h.2.2.1 h.2.2.2 h.2.1 (within_eq u v z) hg
theorem within_nn {a1 a2 b1 b2 c1 c2 p1 p2 : Int} (h : Within a1 a2 b1 b2 c1 c2 p1 p2) (u v z : Int) (hg : 0 ≤ u * p1 + v * p2 + z) : 0 ≤ u * a1 + v * a2 + z ∨ 0 ≤ u * b1 + v * b2 + z ∨ 0 ≤ u * c1 + v * c2 + z :=
  comb_nn (sq_pos h.1) h.2.2.1 h.2.2.2 h.2.1 within_sum (within_eq u v z) hg
/-- An edge's side is affine. -/
theorem el_aff (f1 f2 t1 t2 h1 h2 p1 p2 : Int) : el f1 f2 t1 t2 h1 h2 p1 p2 = (-(t2 - f2) * ar f1 f2 t1 t2 h1 h2) * p1 + ((t1 - f1) * ar f1 f2 t1 t2 h1 h2) * p2 + (((t2 - f2) * f1 - (t1 - f1) * f2) * ar f1 f2 t1 t2 h1 h2) := by
  unfold el
  generalize ar f1 f2 t1 t2 h1 h2 = H
  unfold ar
  grind
theorem x3_pos {f1 f2 t1 t2 h1 h2 d1 d2 e1 e2 g1 g2 p1 p2 : Int} (h : Within d1 d2 e1 e2 g1 g2 p1 p2) (k : eS f1 f2 t1 t2 h1 h2 p1 p2 = 1) : x3 f1 f2 t1 t2 h1 h2 d1 d2 e1 e2 g1 g2 = 1 := by
  have hb := x3_bd f1 f2 t1 t2 h1 h2 d1 d2 e1 e2 g1 g2
  rw [eS_el, sg_pos, el_aff] at k
  have q := within_pos h _ _ _ k
  rw [← el_aff f1 f2 t1 t2 h1 h2 d1 d2, ← el_aff f1 f2 t1 t2 h1 h2 e1 e2, ← el_aff f1 f2 t1 t2 h1 h2 g1 g2] at q
  unfold x3 at *
  rcases q with q | q | q <;> (replace q := sg_pos.2 q; rw [← eS_el] at q; omega)
theorem x3_nn {f1 f2 t1 t2 h1 h2 d1 d2 e1 e2 g1 g2 p1 p2 : Int} (h : Within d1 d2 e1 e2 g1 g2 p1 p2) (k : 0 ≤ eS f1 f2 t1 t2 h1 h2 p1 p2) : 0 ≤ x3 f1 f2 t1 t2 h1 h2 d1 d2 e1 e2 g1 g2 := by
  rw [eS_el, sg_nn, el_aff] at k
  have q := within_nn h _ _ _ k
  rw [← el_aff f1 f2 t1 t2 h1 h2 d1 d2, ← el_aff f1 f2 t1 t2 h1 h2 e1 e2, ← el_aff f1 f2 t1 t2 h1 h2 g1 g2] at q
  unfold x3
  rcases q with q | q | q <;> (replace q := sg_nn.2 q; rw [← eS_el] at q; omega)
theorem r3_pos {a1 a2 b1 b2 c1 c2 d1 d2 e1 e2 g1 g2 p1 p2 : Int} (h : Within d1 d2 e1 e2 g1 g2 p1 p2) (k : r1 a1 a2 b1 b2 c1 c2 p1 p2 = 1) : r3 a1 a2 b1 b2 c1 c2 d1 d2 e1 e2 g1 g2 = 1 := by
  rw [r1_is] at k
  have h0 := eS_bd a1 a2 b1 b2 c1 c2 p1 p2
  have h1 := eS_bd b1 b2 c1 c2 a1 a2 p1 p2
  have h2 := eS_bd c1 c2 a1 a2 b1 b2 p1 p2
  rw [r3_eq, x3_pos h (by omega), x3_pos h (by omega), x3_pos h (by omega)]; rfl
theorem r3_nn {a1 a2 b1 b2 c1 c2 d1 d2 e1 e2 g1 g2 p1 p2 : Int} (h : Within d1 d2 e1 e2 g1 g2 p1 p2) (k : 0 ≤ r1 a1 a2 b1 b2 c1 c2 p1 p2) : 0 ≤ r3 a1 a2 b1 b2 c1 c2 d1 d2 e1 e2 g1 g2 := by
  rw [r1_is] at k
  rw [r3_eq]
  have q0 := x3_nn h (f1 := a1) (f2 := a2) (t1 := b1) (t2 := b2) (h1 := c1) (h2 := c2) (by omega)
  have q1 := x3_nn h (f1 := b1) (f2 := b2) (t1 := c1) (t2 := c2) (h1 := a1) (h2 := a2) (by omega)
  have q2 := x3_nn h (f1 := c1) (f2 := c2) (t1 := a1) (t2 := a2) (h1 := b1) (h2 := b2) (by omega)
  omega
/-- A point inside both: they overlap; a point in both: they touch. -/
theorem mu_pos {a1 a2 b1 b2 c1 c2 d1 d2 e1 e2 g1 g2 p1 p2 : Int} (ha : ar a1 a2 b1 b2 c1 c2 ≠ 0) (hd : ar d1 d2 e1 e2 g1 g2 ≠ 0) (k : r1 a1 a2 b1 b2 c1 c2 p1 p2 = 1) (l : r1 d1 d2 e1 e2 g1 g2 p1 p2 = 1) :
    mu a1 a2 b1 b2 c1 c2 d1 d2 e1 e2 g1 g2 = 1 := by
  unfold mu
  rw [r3_pos (within_of hd (by omega)) k, r3_pos (within_of ha (by omega)) l]; rfl
theorem mu_nn {a1 a2 b1 b2 c1 c2 d1 d2 e1 e2 g1 g2 p1 p2 : Int} (ha : ar a1 a2 b1 b2 c1 c2 ≠ 0) (hd : ar d1 d2 e1 e2 g1 g2 ≠ 0) (k : 0 ≤ r1 a1 a2 b1 b2 c1 c2 p1 p2) (l : 0 ≤ r1 d1 d2 e1 e2 g1 g2 p1 p2) :
    0 ≤ mu a1 a2 b1 b2 c1 c2 d1 d2 e1 e2 g1 g2 := by
  unfold mu
  have := r3_nn (within_of hd l) k
  have := r3_nn (within_of ha k) l
  omega
end Go.Proofs.Ytllamakemgogaaa
