/-
  Texts in one: MtE, MtF, MtG, NrG.
-/
import Derived.Test.YtllamakemgogaaaMtD
import Derived.Test.YtllamakemgogaaaGaA
/-
  Contracts of package meet: crosses, Square. (gen/MtE.py)
-/
namespace Go.Proofs.Ytllamakemgogaaa
open Go.RowKit

theorem max_if (x y : Int) : (if y > x then y else x) = max x y := by
  rw [Int.max_def]
  split <;> split <;> omega
theorem min_if (x y : Int) : (if y < x then y else x) = min x y := by
  rw [Int.min_def]
  split <;> split <;> omega
@[go_sem high] theorem run_max_three {P : Program} (w : World) (ts : Array TypeId) (t : TypeId) (k k' k3 : IntKind) (x y z : Int) :
    (Builtin.max_ ts t #[.int k x, .int k' y, .int k3 z]).run P w = .ok (.int k (max (max x y) z)) w := by
  simp [Builtin.max_, Builtin.max2, max_if]
@[go_sem high] theorem run_min_three {P : Program} (w : World) (ts : Array TypeId) (t : TypeId) (k k' k3 : IntKind) (x y z : Int) :
    (Builtin.min_ ts t #[.int k x, .int k' y, .int k3 z]).run P w = .ok (.int k (min (min x y) z)) w := by
  simp [Builtin.min_, Builtin.min2, min_if]
/-- The rectangle round a triangle meets the one from x y to fx fy. -/
def cB (x y fx fy a1 a2 b1 b2 c1 c2 : Int) : Bool := decide (min (min a1 b1) c1 ≤ fx) && decide (min (min a2 b2) c2 ≤ fy) && decide (x ≤ max (max a1 b1) c1) && decide (y ≤ max (max a2 b2) c2)
end Go.Proofs.Ytllamakemgogaaa
/-
  Contract of package meet: Square. (gen/MtF.py)
-/
namespace Go.Proofs.Ytllamakemgogaaa
open Go.RowKit

/-- The square from x y, s long, is one of small points. -/
def sqS (x y s : Int) : Bool := decide (1 ≤ s) && decide (s ≤ 4096) && s2 x y && s2 (x + s) (y + s)
def sqE (u t : Bool) : Int := if u = true then (if t = true then 0 else 1) else 5
def sqV (x y s a1 a2 b1 b2 c1 c2 : Int) : Bool := sqS x y s && rT a1 a2 b1 b2 c1 c2 && cB x y (x + s) (y + s) a1 a2 b1 b2 c1 c2 && (r4 a1 a2 b1 b2 c1 c2 x y (x + s) y (x + s) (y + s) x (y + s) != -1)
theorem sqS_iff {x y s : Int} : sqS x y s = true ↔ 1 ≤ s ∧ s ≤ 4096 ∧ s2 x y = true ∧ s2 (x + s) (y + s) = true := by
  unfold sqS; simp [Bool.and_eq_true, and_assoc]
theorem s2_corner {x y fx fy : Int} (h : s2 x y = true) (k : s2 fx fy = true) : s2 fx y = true ∧ s2 x fy = true := by
  obtain ⟨a, b⟩ := s2_iff.1 h
  obtain ⟨c, d⟩ := s2_iff.1 k
  exact ⟨s2_iff.2 ⟨c, b⟩, s2_iff.2 ⟨a, d⟩⟩
theorem sq_off {x y s : Int} (t : Bool) (h : sqS x y s = false) (a1 a2 b1 b2 c1 c2 : Int) : sqV x y s a1 a2 b1 b2 c1 c2 = false ∧ sqE (sqS x y s) t = 5 := by
  unfold sqV sqE; rw [h]; exact ⟨rfl, rfl⟩
end Go.Proofs.Ytllamakemgogaaa
/-
  Plain geometry of triangles in a plane: points within, turns, squares. No program in sight.
-/
namespace Go.Proofs.Ytllamakemgogaaa

theorem sg_mul (x y : Int) : ordI x 0 * ordI y 0 = ordI (x * y) 0 := by
  rcases Int.lt_trichotomy x 0 with h | h | h <;> rcases Int.lt_trichotomy y 0 with k | k | k
  · rw [ordI_lt h, ordI_lt k, ordI_gt (Int.mul_pos_of_neg_of_neg h k)]; rfl
  · subst k; rw [Int.mul_zero, ordI_eq rfl]; simp
  · rw [ordI_lt h, ordI_gt k, ordI_lt (Int.mul_neg_of_neg_of_pos h k)]; rfl
  · subst h; rw [Int.zero_mul, ordI_eq rfl]; simp
  · subst h; rw [Int.zero_mul, ordI_eq rfl]; simp
  · subst h; rw [Int.zero_mul, ordI_eq rfl]; simp
  · rw [ordI_gt h, ordI_lt k, ordI_lt (Int.mul_neg_of_pos_of_neg h k)]; rfl
  · subst k; rw [Int.mul_zero, ordI_eq rfl]; simp
  · rw [ordI_gt h, ordI_gt k, ordI_gt (Int.mul_pos h k)]; rfl
theorem sg_neg (x : Int) : ordI (-x) 0 = -ordI x 0 := by
  rcases Int.lt_trichotomy x 0 with h | h | h
  · rw [ordI_lt h, ordI_gt (by omega)]; rfl
  · subst h; rfl
  · rw [ordI_gt h, ordI_lt (by omega)]
theorem sg_pos {x : Int} : ordI x 0 = 1 ↔ 0 < x := by
  rcases ordI_ways x 0 with ⟨h, e⟩ | ⟨h, e⟩ | ⟨h, e⟩ <;> rw [e] <;> omega
theorem sg_nn {x : Int} : 0 ≤ ordI x 0 ↔ 0 ≤ x := by
  rcases ordI_ways x 0 with ⟨h, e⟩ | ⟨h, e⟩ | ⟨h, e⟩ <;> rw [e] <;> omega
theorem sg_low {x : Int} : ordI x 0 = -1 ↔ x < 0 := by
  rcases ordI_ways x 0 with ⟨h, e⟩ | ⟨h, e⟩ | ⟨h, e⟩ <;> rw [e] <;> omega

/-- An edge's side of a point, as a number: above 0 on the inner side. -/
def el (f1 f2 t1 t2 h1 h2 p1 p2 : Int) : Int := ar f1 f2 t1 t2 p1 p2 * ar f1 f2 t1 t2 h1 h2
theorem eS_el (f1 f2 t1 t2 h1 h2 p1 p2 : Int) : eS f1 f2 t1 t2 h1 h2 p1 p2 = ordI (el f1 f2 t1 t2 h1 h2 p1 p2) 0 := sg_mul _ _
theorem ar_turn (a b c d e f : Int) : ar c d e f a b = ar a b c d e f := by unfold ar; grind
theorem ar_swap (a b c d e f : Int) : ar c d a b e f = -ar a b c d e f := by unfold ar; grind
theorem ar_flip (a b c d e f : Int) : ar b a d c f e = -ar a b c d e f := by unfold ar; grind
theorem ar_self (a b c d : Int) : ar a b c d a b = 0 := by unfold ar; grind
theorem ar_self2 (a b c d : Int) : ar a b c d c d = 0 := by unfold ar; grind
theorem eS_swap (f1 f2 t1 t2 h1 h2 p1 p2 : Int) : eS t1 t2 f1 f2 h1 h2 p1 p2 = eS f1 f2 t1 t2 h1 h2 p1 p2 := by
  unfold eS; rw [ar_swap f1 f2 t1 t2 p1 p2, ar_swap f1 f2 t1 t2 h1 h2, sg_neg, sg_neg, Int.neg_mul_neg]
theorem eS_flip (f1 f2 t1 t2 h1 h2 p1 p2 : Int) : eS f2 f1 t2 t1 h2 h1 p2 p1 = eS f1 f2 t1 t2 h1 h2 p1 p2 := by
  unfold eS; rw [ar_flip f1 f2 t1 t2 p1 p2, ar_flip f1 f2 t1 t2 h1 h2, sg_neg, sg_neg, Int.neg_mul_neg]
theorem eS_from (f1 f2 t1 t2 h1 h2 : Int) : eS f1 f2 t1 t2 h1 h2 f1 f2 = 0 := by unfold eS; rw [ar_self, ordI_eq rfl]; simp
theorem eS_to (f1 f2 t1 t2 h1 h2 : Int) : eS f1 f2 t1 t2 h1 h2 t1 t2 = 0 := by unfold eS; rw [ar_self2, ordI_eq rfl]; simp
theorem eS_third {f1 f2 t1 t2 h1 h2 : Int} (h : ar f1 f2 t1 t2 h1 h2 ≠ 0) : eS f1 f2 t1 t2 h1 h2 h1 h2 = 1 := by
  unfold eS
  rcases ordI_ways (ar f1 f2 t1 t2 h1 h2) 0 with ⟨_, e⟩ | ⟨k, _⟩ | ⟨_, e⟩
  · rw [e]; rfl
  · exact absurd k h
  · rw [e]; rfl

/-- The greatest side of three points. -/
def x3 (f1 f2 t1 t2 h1 h2 d1 d2 e1 e2 g1 g2 : Int) : Int := max (max (eS f1 f2 t1 t2 h1 h2 d1 d2) (eS f1 f2 t1 t2 h1 h2 e1 e2)) (eS f1 f2 t1 t2 h1 h2 g1 g2)
theorem x3_bd (f1 f2 t1 t2 h1 h2 d1 d2 e1 e2 g1 g2 : Int) : -1 ≤ x3 f1 f2 t1 t2 h1 h2 d1 d2 e1 e2 g1 g2 ∧ x3 f1 f2 t1 t2 h1 h2 d1 d2 e1 e2 g1 g2 ≤ 1 := by
  have i0 := eS_bd f1 f2 t1 t2 h1 h2 d1 d2
  have i1 := eS_bd f1 f2 t1 t2 h1 h2 e1 e2
  have i2 := eS_bd f1 f2 t1 t2 h1 h2 g1 g2
  unfold x3; omega
theorem mx_3 (s : Nat → Int) : mx s 3 = max (max (max (-1) (s 0)) (s 1)) (s 2) := rfl
theorem mx_4 (s : Nat → Int) : mx s 4 = max (max (max (max (-1) (s 0)) (s 1)) (s 2)) (s 3) := rfl
theorem max_low3 {x y z : Int} (h : -1 ≤ x) : max (max (max (-1) x) y) z = max (max x y) z := by
  rw [Int.max_eq_right h]
theorem max_low4 {x y z u : Int} (h : -1 ≤ x) : max (max (max (max (-1) x) y) z) u = max (max (max x y) z) u := by
  rw [Int.max_eq_right h]
theorem min_high3 {u v w : Int} (h : u ≤ 1) : min (min (min 1 u) v) w = min (min u v) w := by
  rw [Int.min_eq_right h]
theorem r3_eq (a1 a2 b1 b2 c1 c2 d1 d2 e1 e2 g1 g2 : Int) :
    r3 a1 a2 b1 b2 c1 c2 d1 d2 e1 e2 g1 g2 = min (min (x3 a1 a2 b1 b2 c1 c2 d1 d2 e1 e2 g1 g2) (x3 b1 b2 c1 c2 a1 a2 d1 d2 e1 e2 g1 g2)) (x3 c1 c2 a1 a2 b1 b2 d1 d2 e1 e2 g1 g2) := by
  unfold r3 rc
  rw [mx_3, mx_3, mx_3, max_low3 (eS_bd _ _ _ _ _ _ _ _).1, max_low3 (eS_bd _ _ _ _ _ _ _ _).1, max_low3 (eS_bd _ _ _ _ _ _ _ _).1]
  exact min_high3 (x3_bd a1 a2 b1 b2 c1 c2 d1 d2 e1 e2 g1 g2).2
theorem r1_is (a1 a2 b1 b2 c1 c2 x y : Int) : r1 a1 a2 b1 b2 c1 c2 x y = min (min (eS a1 a2 b1 b2 c1 c2 x y) (eS b1 b2 c1 c2 a1 a2 x y)) (eS c1 c2 a1 a2 b1 b2 x y) := by
  have h0 := eS_bd a1 a2 b1 b2 c1 c2 x y
  have h1 := eS_bd b1 b2 c1 c2 a1 a2 x y
  have h2 := eS_bd c1 c2 a1 a2 b1 b2 x y
  show min (min (min 1 (max (-1) (eS a1 a2 b1 b2 c1 c2 x y))) (max (-1) (eS b1 b2 c1 c2 a1 a2 x y))) (max (-1) (eS c1 c2 a1 a2 b1 b2 x y)) = _
  omega
def x4 (f1 f2 t1 t2 h1 h2 d1 d2 e1 e2 g1 g2 k1 k2 : Int) : Int := max (x3 f1 f2 t1 t2 h1 h2 d1 d2 e1 e2 g1 g2) (eS f1 f2 t1 t2 h1 h2 k1 k2)
theorem x4_bd (f1 f2 t1 t2 h1 h2 d1 d2 e1 e2 g1 g2 k1 k2 : Int) : -1 ≤ x4 f1 f2 t1 t2 h1 h2 d1 d2 e1 e2 g1 g2 k1 k2 ∧ x4 f1 f2 t1 t2 h1 h2 d1 d2 e1 e2 g1 g2 k1 k2 ≤ 1 := by
  have i0 := x3_bd f1 f2 t1 t2 h1 h2 d1 d2 e1 e2 g1 g2
  have i1 := eS_bd f1 f2 t1 t2 h1 h2 k1 k2
  unfold x4; omega
theorem r4_eq (a1 a2 b1 b2 c1 c2 d1 d2 e1 e2 g1 g2 k1 k2 : Int) :
    r4 a1 a2 b1 b2 c1 c2 d1 d2 e1 e2 g1 g2 k1 k2 = min (min (x4 a1 a2 b1 b2 c1 c2 d1 d2 e1 e2 g1 g2 k1 k2) (x4 b1 b2 c1 c2 a1 a2 d1 d2 e1 e2 g1 g2 k1 k2)) (x4 c1 c2 a1 a2 b1 b2 d1 d2 e1 e2 g1 g2 k1 k2) := by
  unfold r4 rc
  rw [mx_4, mx_4, mx_4, max_low4 (eS_bd _ _ _ _ _ _ _ _).1, max_low4 (eS_bd _ _ _ _ _ _ _ _).1, max_low4 (eS_bd _ _ _ _ _ _ _ _).1]
  exact min_high3 (x4_bd a1 a2 b1 b2 c1 c2 d1 d2 e1 e2 g1 g2 k1 k2).2

/-- What is affine: at a point of a triangle, by its three corners. -/
theorem bary (a1 a2 b1 b2 c1 c2 p1 p2 u v z : Int) :
    ar a1 a2 b1 b2 c1 c2 * (u * p1 + v * p2 + z) = ar b1 b2 c1 c2 p1 p2 * (u * a1 + v * a2 + z) + ar c1 c2 a1 a2 p1 p2 * (u * b1 + v * b2 + z) + ar a1 a2 b1 b2 p1 p2 * (u * c1 + v * c2 + z) := by
  unfold ar; grind
theorem weights (a1 a2 b1 b2 c1 c2 p1 p2 : Int) : ar a1 a2 b1 b2 c1 c2 = ar b1 b2 c1 c2 p1 p2 + ar c1 c2 a1 a2 p1 p2 + ar a1 a2 b1 b2 p1 p2 := by unfold ar; grind
theorem mul_le0 {x y : Int} (hx : 0 ≤ x) (hy : y ≤ 0) : x * y ≤ 0 := by
  have := Int.mul_nonneg hx (show 0 ≤ -y by omega); rw [Int.mul_neg] at this; omega
theorem comb_pos {s w1 w2 w3 g g1 g2 g3 : Int} (hs : 0 < s) (h1 : 0 ≤ w1) (h2 : 0 ≤ w2) (h3 : 0 ≤ w3) (e : s * g = w1 * g1 + w2 * g2 + w3 * g3) (hg : 0 < g) : 0 < g1 ∨ 0 < g2 ∨ 0 < g3 := by
  rcases Int.lt_or_le 0 g1 with k1 | k1
  · exact .inl k1
  rcases Int.lt_or_le 0 g2 with k2 | k2
  · exact .inr (.inl k2)
  rcases Int.lt_or_le 0 g3 with k3 | k3
  · exact .inr (.inr k3)
  have := Int.mul_pos hs hg
  have := mul_le0 h1 k1
  have := mul_le0 h2 k2
  have := mul_le0 h3 k3
  omega
theorem comb_nn {s w1 w2 w3 g g1 g2 g3 : Int} (hs : 0 < s) (h1 : 0 ≤ w1) (h2 : 0 ≤ w2) (h3 : 0 ≤ w3) (hw : s = w1 + w2 + w3) (e : s * g = w1 * g1 + w2 * g2 + w3 * g3) (hg : 0 ≤ g) : 0 ≤ g1 ∨ 0 ≤ g2 ∨ 0 ≤ g3 := by
  have e' : s * (g + 1) = w1 * (g1 + 1) + w2 * (g2 + 1) + w3 * (g3 + 1) := by
    rw [Int.mul_add, Int.mul_add, Int.mul_add, Int.mul_add]; omega
  rcases comb_pos hs h1 h2 h3 e' (by omega) with k | k | k
  · exact .inl (by omega)
  · exact .inr (.inl (by omega))
  · exact .inr (.inr (by omega))
/-- A point of a closed triangle: what is affine and 0 or more there is so at a corner. -/
def Within (a1 a2 b1 b2 c1 c2 p1 p2 : Int) : Prop := ar a1 a2 b1 b2 c1 c2 ≠ 0 ∧ 0 ≤ el a1 a2 b1 b2 c1 c2 p1 p2 ∧ 0 ≤ el b1 b2 c1 c2 a1 a2 p1 p2 ∧ 0 ≤ el c1 c2 a1 a2 b1 b2 p1 p2
theorem within_of {a1 a2 b1 b2 c1 c2 p1 p2 : Int} (h : ar a1 a2 b1 b2 c1 c2 ≠ 0) (k : 0 ≤ r1 a1 a2 b1 b2 c1 c2 p1 p2) : Within a1 a2 b1 b2 c1 c2 p1 p2 := by
  rw [r1_is, eS_el, eS_el, eS_el] at k
  exact ⟨h, sg_nn.1 (by omega), sg_nn.1 (by omega), sg_nn.1 (by omega)⟩
theorem sq_pos {x : Int} (h : x ≠ 0) : 0 < x * x := by
  rcases Int.lt_or_lt_of_ne h with k | k
  · exact Int.mul_pos_of_neg_of_neg k k
  · exact Int.mul_pos k k
theorem within_eq {a1 a2 b1 b2 c1 c2 p1 p2 : Int} (u v z : Int) :
    (ar a1 a2 b1 b2 c1 c2 * ar a1 a2 b1 b2 c1 c2) * (u * p1 + v * p2 + z) = el b1 b2 c1 c2 a1 a2 p1 p2 * (u * a1 + v * a2 + z) + el c1 c2 a1 a2 b1 b2 p1 p2 * (u * b1 + v * b2 + z) + el a1 a2 b1 b2 c1 c2 p1 p2 * (u * c1 + v * c2 + z) := by
  have h := bary a1 a2 b1 b2 c1 c2 p1 p2 u v z
  unfold el
  rw [ar_turn a1 a2 b1 b2 c1 c2, show ar c1 c2 a1 a2 b1 b2 = ar a1 a2 b1 b2 c1 c2 from by rw [ar_turn b1 b2 c1 c2 a1 a2, ar_turn]]
  generalize ar a1 a2 b1 b2 c1 c2 = A at *
  generalize u * p1 + v * p2 + z = g at *
  generalize u * a1 + v * a2 + z = g1 at *
  generalize u * b1 + v * b2 + z = g2 at *
  generalize u * c1 + v * c2 + z = g3 at *
  generalize ar b1 b2 c1 c2 p1 p2 = w1 at *
  generalize ar c1 c2 a1 a2 p1 p2 = w2 at *
  generalize ar a1 a2 b1 b2 p1 p2 = w3 at *
  rw [Int.mul_assoc, h]
  grind
theorem within_sum {a1 a2 b1 b2 c1 c2 p1 p2 : Int} :
    ar a1 a2 b1 b2 c1 c2 * ar a1 a2 b1 b2 c1 c2 = el b1 b2 c1 c2 a1 a2 p1 p2 + el c1 c2 a1 a2 b1 b2 p1 p2 + el a1 a2 b1 b2 c1 c2 p1 p2 := by
  have h := within_eq (a1 := a1) (a2 := a2) (b1 := b1) (b2 := b2) (c1 := c1) (c2 := c2) (p1 := p1) (p2 := p2) 0 0 1
  simpa using h
theorem within_pos {a1 a2 b1 b2 c1 c2 p1 p2 : Int} (h : Within a1 a2 b1 b2 c1 c2 p1 p2) (u v z : Int) (hg : 0 < u * p1 + v * p2 + z) : 0 < u * a1 + v * a2 + z ∨ 0 < u * b1 + v * b2 + z ∨ 0 < u * c1 + v * c2 + z :=
  comb_pos (sq_pos h.1) h.2.2.1 h.2.2.2 h.2.1 (within_eq u v z) hg
theorem within_nn {a1 a2 b1 b2 c1 c2 p1 p2 : Int} (h : Within a1 a2 b1 b2 c1 c2 p1 p2) (u v z : Int) (hg : 0 ≤ u * p1 + v * p2 + z) : 0 ≤ u * a1 + v * a2 + z ∨ 0 ≤ u * b1 + v * b2 + z ∨ 0 ≤ u * c1 + v * c2 + z :=
  comb_nn (sq_pos h.1) h.2.2.1 h.2.2.2 h.2.1 within_sum (within_eq u v z) hg
/-- An edge's side is affine. -/
theorem el_aff (f1 f2 t1 t2 h1 h2 p1 p2 : Int) : el f1 f2 t1 t2 h1 h2 p1 p2 = (-(t2 - f2) * ar f1 f2 t1 t2 h1 h2) * p1 + ((t1 - f1) * ar f1 f2 t1 t2 h1 h2) * p2 + (((t2 - f2) * f1 - (t1 - f1) * f2) * ar f1 f2 t1 t2 h1 h2) := by
  unfold el
  generalize ar f1 f2 t1 t2 h1 h2 = H
  unfold ar
  grind
theorem x3_pos {f1 f2 t1 t2 h1 h2 d1 d2 e1 e2 g1 g2 p1 p2 : Int} (h : Within d1 d2 e1 e2 g1 g2 p1 p2) (k : eS f1 f2 t1 t2 h1 h2 p1 p2 = 1) : x3 f1 f2 t1 t2 h1 h2 d1 d2 e1 e2 g1 g2 = 1 := by
  have hb := x3_bd f1 f2 t1 t2 h1 h2 d1 d2 e1 e2 g1 g2
  rw [eS_el, sg_pos, el_aff] at k
  have q := within_pos h _ _ _ k
  rw [← el_aff f1 f2 t1 t2 h1 h2 d1 d2, ← el_aff f1 f2 t1 t2 h1 h2 e1 e2, ← el_aff f1 f2 t1 t2 h1 h2 g1 g2] at q
  unfold x3 at *
  rcases q with q | q | q <;> (replace q := sg_pos.2 q; rw [← eS_el] at q; omega)
theorem x3_nn {f1 f2 t1 t2 h1 h2 d1 d2 e1 e2 g1 g2 p1 p2 : Int} (h : Within d1 d2 e1 e2 g1 g2 p1 p2) (k : 0 ≤ eS f1 f2 t1 t2 h1 h2 p1 p2) : 0 ≤ x3 f1 f2 t1 t2 h1 h2 d1 d2 e1 e2 g1 g2 := by
  rw [eS_el, sg_nn, el_aff] at k
  have q := within_nn h _ _ _ k
  rw [← el_aff f1 f2 t1 t2 h1 h2 d1 d2, ← el_aff f1 f2 t1 t2 h1 h2 e1 e2, ← el_aff f1 f2 t1 t2 h1 h2 g1 g2] at q
  unfold x3
  rcases q with q | q | q <;> (replace q := sg_nn.2 q; rw [← eS_el] at q; omega)
theorem r3_pos {a1 a2 b1 b2 c1 c2 d1 d2 e1 e2 g1 g2 p1 p2 : Int} (h : Within d1 d2 e1 e2 g1 g2 p1 p2) (k : r1 a1 a2 b1 b2 c1 c2 p1 p2 = 1) : r3 a1 a2 b1 b2 c1 c2 d1 d2 e1 e2 g1 g2 = 1 := by
  rw [r1_is] at k
  have h0 := eS_bd a1 a2 b1 b2 c1 c2 p1 p2
  have h1 := eS_bd b1 b2 c1 c2 a1 a2 p1 p2
  have h2 := eS_bd c1 c2 a1 a2 b1 b2 p1 p2
  rw [r3_eq, x3_pos h (by omega), x3_pos h (by omega), x3_pos h (by omega)]; rfl
theorem r3_nn {a1 a2 b1 b2 c1 c2 d1 d2 e1 e2 g1 g2 p1 p2 : Int} (h : Within d1 d2 e1 e2 g1 g2 p1 p2) (k : 0 ≤ r1 a1 a2 b1 b2 c1 c2 p1 p2) : 0 ≤ r3 a1 a2 b1 b2 c1 c2 d1 d2 e1 e2 g1 g2 := by
  rw [r1_is] at k
  rw [r3_eq]
  have q0 := x3_nn h (f1 := a1) (f2 := a2) (t1 := b1) (t2 := b2) (h1 := c1) (h2 := c2) (by omega)
  have q1 := x3_nn h (f1 := b1) (f2 := b2) (t1 := c1) (t2 := c2) (h1 := a1) (h2 := a2) (by omega)
  have q2 := x3_nn h (f1 := c1) (f2 := c2) (t1 := a1) (t2 := a2) (h1 := b1) (h2 := b2) (by omega)
  omega
/-- A point inside both: they overlap; a point in both: they touch. -/
theorem mu_pos {a1 a2 b1 b2 c1 c2 d1 d2 e1 e2 g1 g2 p1 p2 : Int} (ha : ar a1 a2 b1 b2 c1 c2 ≠ 0) (hd : ar d1 d2 e1 e2 g1 g2 ≠ 0) (k : r1 a1 a2 b1 b2 c1 c2 p1 p2 = 1) (l : r1 d1 d2 e1 e2 g1 g2 p1 p2 = 1) :
    mu a1 a2 b1 b2 c1 c2 d1 d2 e1 e2 g1 g2 = 1 := by
  unfold mu
  rw [r3_pos (within_of hd (by omega)) k, r3_pos (within_of ha (by omega)) l]; rfl
theorem mu_nn {a1 a2 b1 b2 c1 c2 d1 d2 e1 e2 g1 g2 p1 p2 : Int} (ha : ar a1 a2 b1 b2 c1 c2 ≠ 0) (hd : ar d1 d2 e1 e2 g1 g2 ≠ 0) (k : 0 ≤ r1 a1 a2 b1 b2 c1 c2 p1 p2) (l : 0 ≤ r1 d1 d2 e1 e2 g1 g2 p1 p2) :
    0 ≤ mu a1 a2 b1 b2 c1 c2 d1 d2 e1 e2 g1 g2 := by
  unfold mu
  have := r3_nn (within_of hd l) k
  have := r3_nn (within_of ha k) l
  omega
end Go.Proofs.Ytllamakemgogaaa
/-
  Plain geometry: what is closest to a point outside of a triangle lies on an edge; weights. No program in sight.
-/
namespace Go.Proofs.Ytllamakemgogaaa

/-- Of three that fall from 0 or more to below 0 one falls last. -/
theorem fall_triv {a b p q : Int} (ha : 0 ≤ a) (hb : 0 ≤ b) (hp : p < 0) (hq : 0 ≤ q) : 0 ≤ a * q - p * b := by
  have u := Int.mul_nonneg ha hq
  have v := Int.mul_nonneg (show 0 ≤ -p by omega) hb
  rw [Int.neg_mul] at v
  omega
theorem fall_trans {a b c p q r : Int} (hp : p < 0) (hq : q < 0) (hr : r < 0) (h : 0 ≤ a * q - p * b) (k : 0 ≤ b * r - q * c) : 0 ≤ a * r - p * c := by
  have e : q * (a * r - p * c) = (a * q - p * b) * r + (b * r - q * c) * p := by grind
  have u := mul_le0 h (show r ≤ 0 by omega)
  have v := mul_le0 k (show p ≤ 0 by omega)
  rcases Int.lt_or_le (a * r - p * c) 0 with z | z
  · have := Int.mul_pos_of_neg_of_neg hq z; omega
  · exact z
theorem fall_anti (a b p q : Int) : b * p - q * a = -(a * q - p * b) := by grind
theorem fall_last {a b c p q r : Int} (ha : 0 ≤ a) (hb : 0 ≤ b) (hc : 0 ≤ c) (h : p < 0 ∨ q < 0 ∨ r < 0) :
    (p < 0 ∧ 0 ≤ a * q - p * b ∧ 0 ≤ a * r - p * c) ∨ (q < 0 ∧ 0 ≤ b * r - q * c ∧ 0 ≤ b * p - q * a) ∨ (r < 0 ∧ 0 ≤ c * p - r * a ∧ 0 ≤ c * q - r * b) := by
  have e1 := fall_anti a b p q
  have e2 := fall_anti b c q r
  have e3 := fall_anti c a r p
  rcases Int.lt_or_le p 0 with hp | hp <;> rcases Int.lt_or_le q 0 with hq | hq <;> rcases Int.lt_or_le r 0 with hr | hr
  · rcases Int.le_total 0 (a * q - p * b) with k1 | k1 <;> rcases Int.le_total 0 (b * r - q * c) with k2 | k2 <;> rcases Int.le_total 0 (c * p - r * a) with k3 | k3
    · have t := fall_trans hp hq hr k1 k2
      exact .inl ⟨hp, k1, t⟩
    · exact .inl ⟨hp, k1, by omega⟩
    · exact .inr (.inr ⟨hr, k3, by omega⟩)
    · exact .inl ⟨hp, k1, by omega⟩
    · exact .inr (.inl ⟨hq, k2, by omega⟩)
    · exact .inr (.inl ⟨hq, k2, by omega⟩)
    · exact .inr (.inr ⟨hr, k3, by omega⟩)
    · have t := fall_trans (a := a) (b := c) (c := b) (p := p) (q := r) (r := q) hp hr hq (by omega) (by omega)
      have : a * q - p * b = 0 := by omega
      exact .inl ⟨hp, t, by omega⟩
  · have k2 := fall_triv hb hc hq hr
    have k3 := fall_triv ha hc hp hr
    rcases Int.le_total 0 (a * q - p * b) with k1 | k1
    · exact .inl ⟨hp, k1, k3⟩
    · exact .inr (.inl ⟨hq, k2, by omega⟩)
  · have k2 := fall_triv hc hb hr hq
    have k3 := fall_triv ha hb hp hq
    rcases Int.le_total 0 (c * p - r * a) with k1 | k1
    · exact .inr (.inr ⟨hr, k1, k2⟩)
    · exact .inl ⟨hp, k3, by omega⟩
  · exact .inl ⟨hp, fall_triv ha hb hp hq, fall_triv ha hc hp hr⟩
  · have k2 := fall_triv hb ha hq hp
    have k3 := fall_triv hc ha hr hp
    rcases Int.le_total 0 (b * r - q * c) with k1 | k1
    · exact .inr (.inl ⟨hq, k1, k2⟩)
    · exact .inr (.inr ⟨hr, k3, by omega⟩)
  · exact .inr (.inl ⟨hq, fall_triv hb hc hq hr, fall_triv hb ha hq hp⟩)
  · exact .inr (.inr ⟨hr, fall_triv hc ha hr hp, fall_triv hc hb hr hq⟩)
  · omega

/-- An edge that the way from a point outside to one in the triangle goes through: its foot is no farther. -/
theorem through {p1 p2 q1 q2 a1 a2 b1 b2 c1 c2 : Int} (hA : ar a1 a2 b1 b2 c1 c2 ≠ 0) (hq : 0 ≤ el a1 a2 b1 b2 c1 c2 q1 q2) (hp : el a1 a2 b1 b2 c1 c2 p1 p2 < 0) (hfd : 1 ≤ fD p1 p2 a1 a2 b1 b2)
    (hu : 0 ≤ el a1 a2 b1 b2 c1 c2 q1 q2 * el b1 b2 c1 c2 a1 a2 p1 p2 - el a1 a2 b1 b2 c1 c2 p1 p2 * el b1 b2 c1 c2 a1 a2 q1 q2)
    (hv : 0 ≤ el a1 a2 b1 b2 c1 c2 q1 q2 * el c1 c2 a1 a2 b1 b2 p1 p2 - el a1 a2 b1 b2 c1 c2 p1 p2 * el c1 c2 a1 a2 b1 b2 q1 q2) :
    fN p1 p2 a1 a2 b1 b2 ≤ fD p1 p2 a1 a2 b1 b2 * sq p1 p2 q1 q2 := by
  have hL := edge_least (x := p1) (y := p2) (a1 := a1) (a2 := a2) (b1 := b1) (b2 := b2) hu hv
  have sp := within_sum (a1 := a1) (a2 := a2) (b1 := b1) (b2 := b2) (c1 := c1) (c2 := c2) (p1 := p1) (p2 := p2)
  have sq' := within_sum (a1 := a1) (a2 := a2) (b1 := b1) (b2 := b2) (c1 := c1) (c2 := c2) (p1 := q1) (p2 := q2)
  have xp := within_eq (a1 := a1) (a2 := a2) (b1 := b1) (b2 := b2) (c1 := c1) (c2 := c2) (p1 := p1) (p2 := p2) 1 0 0
  have yp := within_eq (a1 := a1) (a2 := a2) (b1 := b1) (b2 := b2) (c1 := c1) (c2 := c2) (p1 := p1) (p2 := p2) 0 1 0
  have xq := within_eq (a1 := a1) (a2 := a2) (b1 := b1) (b2 := b2) (c1 := c1) (c2 := c2) (p1 := q1) (p2 := q2) 1 0 0
  have yq := within_eq (a1 := a1) (a2 := a2) (b1 := b1) (b2 := b2) (c1 := c1) (c2 := c2) (p1 := q1) (p2 := q2) 0 1 0
  have hS := sq_pos hA
  have hd := sq_nn2 p1 p2 q1 q2
  simp only [Int.one_mul, Int.zero_mul, Int.add_zero, Int.zero_add] at xp yp xq yq
  generalize ar a1 a2 b1 b2 c1 c2 * ar a1 a2 b1 b2 c1 c2 = S at *
  generalize el a1 a2 b1 b2 c1 c2 q1 q2 = A at *
  generalize el a1 a2 b1 b2 c1 c2 p1 p2 = B at *
  generalize el b1 b2 c1 c2 a1 a2 p1 p2 = up at *
  generalize el b1 b2 c1 c2 a1 a2 q1 q2 = uq at *
  generalize el c1 c2 a1 a2 b1 b2 p1 p2 = vp at *
  generalize el c1 c2 a1 a2 b1 b2 q1 q2 = vq at *
  have hT : (A * up - B * uq) + (A * vp - B * vq) = (A - B) * S := by
    rw [show up = S - vp - B from by omega, show uq = S - vq - A from by omega]; grind
  have hx : ((A * up - B * uq) + (A * vp - B * vq)) * p1 - ((A * up - B * uq) * a1 + (A * vp - B * vq) * b1) = -(S * B) * (p1 - q1) := by
    rw [hT]
    have k1 : A * (S * p1) = A * (up * a1 + vp * b1 + B * c1) := by rw [xp]
    have k2 : B * (S * q1) = B * (uq * a1 + vq * b1 + A * c1) := by rw [xq]
    grind
  have hy : ((A * up - B * uq) + (A * vp - B * vq)) * p2 - ((A * up - B * uq) * a2 + (A * vp - B * vq) * b2) = -(S * B) * (p2 - q2) := by
    rw [hT]
    have k1 : A * (S * p2) = A * (up * a2 + vp * b2 + B * c2) := by rw [yp]
    have k2 : B * (S * q2) = B * (uq * a2 + vq * b2 + A * c2) := by rw [yq]
    grind
  have hg : gw p1 p2 a1 a2 b1 b2 (A * up - B * uq) (A * vp - B * vq) = (S * B) * (S * B) * sq p1 p2 q1 q2 := by
    unfold gw
    rw [hx, hy]
    unfold sq
    grind
  rw [hg, hT] at hL
  clear hg hx hy hT xp yp xq yq sp sq' hu hv
  have hT0 : 0 < (A - B) * S := Int.mul_pos (by omega) hS
  have hle : (S * B) * (S * B) ≤ ((A - B) * S) * ((A - B) * S) := by
    have e : S * B * (S * B) = (S * -B) * (S * -B) := by grind
    have e2 : (A - B) * S = S * (A - B) := Int.mul_comm _ _
    have l : S * -B ≤ S * (A - B) := Int.mul_le_mul_of_nonneg_left (by omega) (by omega)
    have l0 : 0 ≤ S * -B := Int.mul_nonneg (by omega) (by omega)
    rw [e, e2]
    exact Int.mul_le_mul l l l0 (by omega)
  have hT2 : 0 < ((A - B) * S) * ((A - B) * S) := Int.mul_pos hT0 hT0
  generalize ((A - B) * S) * ((A - B) * S) = T at *
  generalize (S * B) * (S * B) = R at *
  generalize sq p1 p2 q1 q2 = d at *
  generalize fN p1 p2 a1 a2 b1 b2 = n at *
  generalize fD p1 p2 a1 a2 b1 b2 = f at *
  have h1 : f * (R * d) ≤ f * (T * d) := Int.mul_le_mul_of_nonneg_left (Int.mul_le_mul_of_nonneg_right hle hd) (by omega)
  have h2 : f * (T * d) = f * d * T := by grind
  exact Int.le_of_mul_le_mul_right (by omega : n * T ≤ f * d * T) hT2
theorem ar_ne_turn {a b c d e f : Int} (h : ar a b c d e f ≠ 0) : ar c d e f a b ≠ 0 := by rw [ar_turn]; exact h
/-- Of a point outside one edge's foot is no farther than any point in the triangle. -/
theorem outside_least {p1 p2 q1 q2 a1 a2 b1 b2 c1 c2 : Int} (hp : s2 p1 p2 = true) (ha : s2 a1 a2 = true) (hb : s2 b1 b2 = true) (hc : s2 c1 c2 = true) (hA : ar a1 a2 b1 b2 c1 c2 ≠ 0)
    (hout : r1 a1 a2 b1 b2 c1 c2 p1 p2 < 0) (hin : 0 ≤ r1 a1 a2 b1 b2 c1 c2 q1 q2) :
    fN p1 p2 a1 a2 b1 b2 ≤ fD p1 p2 a1 a2 b1 b2 * sq p1 p2 q1 q2 ∨ fN p1 p2 b1 b2 c1 c2 ≤ fD p1 p2 b1 b2 c1 c2 * sq p1 p2 q1 q2 ∨ fN p1 p2 c1 c2 a1 a2 ≤ fD p1 p2 c1 c2 a1 a2 * sq p1 p2 q1 q2 := by
  obtain ⟨_, q1', q2', q3'⟩ := within_of hA hin
  rw [r1_is, eS_el, eS_el, eS_el] at hout
  have f1 := (edge_fr hp ha hb).1.1
  have f2 := (edge_fr hp hb hc).1.1
  have f3 := (edge_fr hp hc ha).1.1
  have o : el a1 a2 b1 b2 c1 c2 p1 p2 < 0 ∨ el b1 b2 c1 c2 a1 a2 p1 p2 < 0 ∨ el c1 c2 a1 a2 b1 b2 p1 p2 < 0 := by
    have n1 := sg_nn (x := el a1 a2 b1 b2 c1 c2 p1 p2)
    have n2 := sg_nn (x := el b1 b2 c1 c2 a1 a2 p1 p2)
    have n3 := sg_nn (x := el c1 c2 a1 a2 b1 b2 p1 p2)
    omega
  rcases fall_last q1' q2' q3' o with ⟨k, u, v⟩ | ⟨k, u, v⟩ | ⟨k, u, v⟩
  · exact .inl (through hA q1' k f1 u v)
  · exact .inr (.inl (through (ar_ne_turn hA) q2' k f2 u v))
  · exact .inr (.inr (through (ar_ne_turn (ar_ne_turn hA)) q3' k f3 u v))

/-- Weights: an area times the side of the whole, and the whole likewise. -/
def wg (A v : Int) : Int := v * ordI A 0
theorem wg_bd {A v : Int} (h : -134217728 ≤ v ∧ v ≤ 134217728) : -134217728 ≤ wg A v ∧ wg A v ≤ 134217728 := by
  unfold wg
  rcases ordI_ways A 0 with ⟨_, e⟩ | ⟨_, e⟩ | ⟨_, e⟩ <;> rw [e] <;> omega
theorem wg_self {A : Int} (h : A ≠ 0) : 0 < wg A A := by
  unfold wg
  rcases ordI_ways A 0 with ⟨_, e⟩ | ⟨_, e⟩ | ⟨_, e⟩ <;> rw [e] <;> omega
theorem wg_sum {a1 a2 b1 b2 c1 c2 : Int} (x y : Int) : wg (ar a1 a2 b1 b2 c1 c2) (ar x y b1 b2 c1 c2) + wg (ar a1 a2 b1 b2 c1 c2) (ar x y c1 c2 a1 a2) + wg (ar a1 a2 b1 b2 c1 c2) (ar x y a1 a2 b1 b2) = wg (ar a1 a2 b1 b2 c1 c2) (ar a1 a2 b1 b2 c1 c2) := by
  have h := weights a1 a2 b1 b2 c1 c2 x y
  rw [← ar_turn x y b1 b2 c1 c2, ← ar_turn x y c1 c2 a1 a2, ← ar_turn x y a1 a2 b1 b2]
  unfold wg
  generalize ordI (ar a1 a2 b1 b2 c1 c2) 0 = o
  rw [← Int.add_mul, ← Int.add_mul, ← h]
theorem wg_point {a1 a2 b1 b2 c1 c2 : Int} (x y u v : Int) : wg (ar a1 a2 b1 b2 c1 c2) (ar x y b1 b2 c1 c2) * (u * a1 + v * a2) + wg (ar a1 a2 b1 b2 c1 c2) (ar x y c1 c2 a1 a2) * (u * b1 + v * b2) + wg (ar a1 a2 b1 b2 c1 c2) (ar x y a1 a2 b1 b2) * (u * c1 + v * c2) = wg (ar a1 a2 b1 b2 c1 c2) (ar a1 a2 b1 b2 c1 c2) * (u * x + v * y) := by
  have h := bary a1 a2 b1 b2 c1 c2 x y u v 0
  rw [← ar_turn x y b1 b2 c1 c2, ← ar_turn x y c1 c2 a1 a2, ← ar_turn x y a1 a2 b1 b2]
  unfold wg
  generalize ordI (ar a1 a2 b1 b2 c1 c2) 0 = o
  simp only [Int.add_zero] at h
  have h2 : o * (ar a1 a2 b1 b2 c1 c2 * (u * x + v * y)) = o * (ar b1 b2 c1 c2 x y * (u * a1 + v * a2) + ar c1 c2 a1 a2 x y * (u * b1 + v * b2) + ar a1 a2 b1 b2 x y * (u * c1 + v * c2)) := by rw [h]
  generalize ar b1 b2 c1 c2 x y = r1 at *
  generalize ar c1 c2 a1 a2 x y = r2 at *
  generalize ar a1 a2 b1 b2 x y = r3 at *
  generalize ar a1 a2 b1 b2 c1 c2 = A at *
  generalize u * x + v * y = k0 at *
  generalize u * a1 + v * a2 = k1 at *
  generalize u * b1 + v * b2 = k2 at *
  generalize u * c1 + v * c2 = k3 at *
  grind
theorem wg_x {a1 a2 b1 b2 c1 c2 : Int} (x y : Int) : wg (ar a1 a2 b1 b2 c1 c2) (ar x y b1 b2 c1 c2) * a1 + wg (ar a1 a2 b1 b2 c1 c2) (ar x y c1 c2 a1 a2) * b1 + wg (ar a1 a2 b1 b2 c1 c2) (ar x y a1 a2 b1 b2) * c1 = wg (ar a1 a2 b1 b2 c1 c2) (ar a1 a2 b1 b2 c1 c2) * x := by
  have h := wg_point (a1 := a1) (a2 := a2) (b1 := b1) (b2 := b2) (c1 := c1) (c2 := c2) x y 1 0
  simpa only [Int.one_mul, Int.zero_mul, Int.add_zero] using h
theorem wg_y {a1 a2 b1 b2 c1 c2 : Int} (x y : Int) : wg (ar a1 a2 b1 b2 c1 c2) (ar x y b1 b2 c1 c2) * a2 + wg (ar a1 a2 b1 b2 c1 c2) (ar x y c1 c2 a1 a2) * b2 + wg (ar a1 a2 b1 b2 c1 c2) (ar x y a1 a2 b1 b2) * c2 = wg (ar a1 a2 b1 b2 c1 c2) (ar a1 a2 b1 b2 c1 c2) * y := by
  have h := wg_point (a1 := a1) (a2 := a2) (b1 := b1) (b2 := b2) (c1 := c1) (c2 := c2) x y 0 1
  simpa only [Int.one_mul, Int.zero_mul, Int.zero_add] using h
/-- A weight's side is the edge's side. -/
theorem wg_side {A v : Int} (h : A ≠ 0) : ordI (wg A v) 0 = ordI v 0 * ordI A 0 := by
  unfold wg
  rw [sg_mul]
  rcases Int.lt_or_lt_of_ne h with k | k
  · rw [ordI_lt k, show v * -1 = -v by omega, show ordI (-v) 0 = ordI (v * A) 0 from ?_]
    rw [← sg_mul, ordI_lt k, sg_neg]; omega
  · rw [ordI_gt k, Int.mul_one, ← sg_mul, ordI_gt k, Int.mul_one]
theorem wg_eS {a1 a2 b1 b2 c1 c2 x y : Int} (h : ar a1 a2 b1 b2 c1 c2 ≠ 0) :
    ordI (wg (ar a1 a2 b1 b2 c1 c2) (ar x y b1 b2 c1 c2)) 0 = eS b1 b2 c1 c2 a1 a2 x y ∧ ordI (wg (ar a1 a2 b1 b2 c1 c2) (ar x y c1 c2 a1 a2)) 0 = eS c1 c2 a1 a2 b1 b2 x y ∧ ordI (wg (ar a1 a2 b1 b2 c1 c2) (ar x y a1 a2 b1 b2)) 0 = eS a1 a2 b1 b2 c1 c2 x y := by
  rw [wg_side h, wg_side h, wg_side h, ← ar_turn x y b1 b2 c1 c2, ← ar_turn x y c1 c2 a1 a2, ← ar_turn x y a1 a2 b1 b2]
  unfold eS
  rw [ar_turn a1 a2 b1 b2 c1 c2, show ar c1 c2 a1 a2 b1 b2 = ar a1 a2 b1 b2 c1 c2 from by rw [ar_turn b1 b2 c1 c2 a1 a2, ar_turn]]
  exact ⟨rfl, rfl, rfl⟩
theorem wg_in {a1 a2 b1 b2 c1 c2 x y : Int} (h : ar a1 a2 b1 b2 c1 c2 ≠ 0) :
    (0 ≤ r1 a1 a2 b1 b2 c1 c2 x y ↔ 0 ≤ wg (ar a1 a2 b1 b2 c1 c2) (ar x y b1 b2 c1 c2) ∧ 0 ≤ wg (ar a1 a2 b1 b2 c1 c2) (ar x y c1 c2 a1 a2) ∧ 0 ≤ wg (ar a1 a2 b1 b2 c1 c2) (ar x y a1 a2 b1 b2))
    ∧ (r1 a1 a2 b1 b2 c1 c2 x y = 1 ↔ 0 < wg (ar a1 a2 b1 b2 c1 c2) (ar x y b1 b2 c1 c2) ∧ 0 < wg (ar a1 a2 b1 b2 c1 c2) (ar x y c1 c2 a1 a2) ∧ 0 < wg (ar a1 a2 b1 b2 c1 c2) (ar x y a1 a2 b1 b2)) := by
  obtain ⟨e1, e2, e3⟩ := wg_eS (x := x) (y := y) h
  have h0 := eS_bd a1 a2 b1 b2 c1 c2 x y
  have h1 := eS_bd b1 b2 c1 c2 a1 a2 x y
  have h2 := eS_bd c1 c2 a1 a2 b1 b2 x y
  rw [r1_is, ← e1, ← e2, ← e3] at *
  generalize wg (ar a1 a2 b1 b2 c1 c2) (ar x y b1 b2 c1 c2) = u at *
  generalize wg (ar a1 a2 b1 b2 c1 c2) (ar x y c1 c2 a1 a2) = v at *
  generalize wg (ar a1 a2 b1 b2 c1 c2) (ar x y a1 a2 b1 b2) = z at *
  have n1 := sg_nn (x := u)
  have n2 := sg_nn (x := v)
  have n3 := sg_nn (x := z)
  have p1 := sg_pos (x := u)
  have p2 := sg_pos (x := v)
  have p3 := sg_pos (x := z)
  omega

/-- What is lifted: weights times parts, divided by the whole, rounded down. -/
def lf (w0 w1 w2 n a b c : Int) : Int := (w0 * a + w1 * b + w2 * c) / n
theorem lf_one {w0 w1 w2 n : Int} (hn : 0 < n) (h : w0 + w1 + w2 = n) (a : Int) : lf w0 w1 w2 n a a a = a := by
  unfold lf
  rw [← Int.add_mul, ← Int.add_mul, h]
  exact Int.mul_ediv_cancel_left _ (by omega)
theorem lf_box {w0 w1 w2 n a b c : Int} (hn : 0 < n) (h : w0 + w1 + w2 = n) (h0 : 0 ≤ w0) (h1 : 0 ≤ w1) (h2 : 0 ≤ w2) : min (min a b) c ≤ lf w0 w1 w2 n a b c ∧ lf w0 w1 w2 n a b c ≤ max (max a b) c := by
  unfold lf
  refine div_between hn ?_ ?_
  · have k0 := Int.mul_le_mul_of_nonneg_left (show min (min a b) c ≤ a by omega) h0
    have k1 := Int.mul_le_mul_of_nonneg_left (show min (min a b) c ≤ b by omega) h1
    have k2 := Int.mul_le_mul_of_nonneg_left (show min (min a b) c ≤ c by omega) h2
    generalize min (min a b) c = m at *
    rw [← h, Int.mul_add, Int.mul_add, Int.mul_comm m, Int.mul_comm m, Int.mul_comm m]; omega
  · have k0 := Int.mul_le_mul_of_nonneg_left (show a ≤ max (max a b) c by omega) h0
    have k1 := Int.mul_le_mul_of_nonneg_left (show b ≤ max (max a b) c by omega) h1
    have k2 := Int.mul_le_mul_of_nonneg_left (show c ≤ max (max a b) c by omega) h2
    generalize max (max a b) c = m at *
    rw [← h, Int.mul_add, Int.mul_add, Int.mul_comm m, Int.mul_comm m, Int.mul_comm m]; omega
/-- At a corner. -/
theorem wg_zero (A : Int) : wg A 0 = 0 := Int.zero_mul _
theorem ar_first (a b c d : Int) : ar a b c d a b = 0 := ar_self a b c d
theorem ar_last (a b c d : Int) : ar a b a b c d = 0 := by unfold ar; grind
theorem ar_end (a b c d : Int) : ar c d a b a b = 0 := by unfold ar; grind
theorem lf_corner {A : Int} (h : A ≠ 0) (a b c : Int) : lf (wg A A) 0 0 (wg A A) a b c = a ∧ lf 0 (wg A A) 0 (wg A A) a b c = b ∧ lf 0 0 (wg A A) (wg A A) a b c = c := by
  have := wg_self h
  unfold lf
  simp only [Int.zero_mul, Int.add_zero, Int.zero_add]
  exact ⟨Int.mul_ediv_cancel_left _ (by omega), Int.mul_ediv_cancel_left _ (by omega), Int.mul_ediv_cancel_left _ (by omega)⟩
end Go.Proofs.Ytllamakemgogaaa
