/-
  Plain geometry of a way and a triangle in space: volumes, where the way meets the plane, beside and through. No program in sight.
-/
import Derived.Test.YtfghjfgdjlkooaaSgPl
namespace Go.Proofs.Ytfghjfgdjlkooaa

/-- Places changed, and told round: a volume. -/
theorem vo_ab (a1 a2 a3 b1 b2 b3 c1 c2 c3 d1 d2 d3 : Int) : vo b1 b2 b3 a1 a2 a3 c1 c2 c3 d1 d2 d3 = -vo a1 a2 a3 b1 b2 b3 c1 c2 c3 d1 d2 d3 := by unfold vo ar; grind
theorem vo_cd (a1 a2 a3 b1 b2 b3 c1 c2 c3 d1 d2 d3 : Int) : vo a1 a2 a3 b1 b2 b3 d1 d2 d3 c1 c2 c3 = -vo a1 a2 a3 b1 b2 b3 c1 c2 c3 d1 d2 d3 := by unfold vo ar; grind
theorem vo_bc (a1 a2 a3 b1 b2 b3 c1 c2 c3 d1 d2 d3 : Int) : vo a1 a2 a3 c1 c2 c3 b1 b2 b3 d1 d2 d3 = -vo a1 a2 a3 b1 b2 b3 c1 c2 c3 d1 d2 d3 := by unfold vo ar; grind
theorem vo_turn (a1 a2 a3 b1 b2 b3 c1 c2 c3 d1 d2 d3 : Int) : vo b1 b2 b3 c1 c2 c3 a1 a2 a3 d1 d2 d3 = vo a1 a2 a3 b1 b2 b3 c1 c2 c3 d1 d2 d3 := by unfold vo ar; grind
/-- The three volumes of a way and the edges make the way's two volumes over the triangle. -/
theorem vo_sum (a1 a2 a3 b1 b2 b3 p1 p2 p3 q1 q2 q3 r1 r2 r3 : Int) :
    vo a1 a2 a3 b1 b2 b3 p1 p2 p3 q1 q2 q3 + vo a1 a2 a3 b1 b2 b3 q1 q2 q3 r1 r2 r3 + vo a1 a2 a3 b1 b2 b3 r1 r2 r3 p1 p2 p3 = vo p1 p2 p3 q1 q2 q3 r1 r2 r3 b1 b2 b3 - vo p1 p2 p3 q1 q2 q3 r1 r2 r3 a1 a2 a3 := by unfold vo ar; grind
/-- Where the way meets the plane, part by part. -/
theorem vo_meet1 (a1 a2 a3 b1 b2 b3 p1 p2 p3 q1 q2 q3 r1 r2 r3 : Int) :
    vo a1 a2 a3 b1 b2 b3 q1 q2 q3 r1 r2 r3 * p1 + vo a1 a2 a3 b1 b2 b3 r1 r2 r3 p1 p2 p3 * q1 + vo a1 a2 a3 b1 b2 b3 p1 p2 p3 q1 q2 q3 * r1 = vo p1 p2 p3 q1 q2 q3 r1 r2 r3 b1 b2 b3 * a1 - vo p1 p2 p3 q1 q2 q3 r1 r2 r3 a1 a2 a3 * b1 := by unfold vo ar; grind
theorem vo_meet2 (a1 a2 a3 b1 b2 b3 p1 p2 p3 q1 q2 q3 r1 r2 r3 : Int) :
    vo a1 a2 a3 b1 b2 b3 q1 q2 q3 r1 r2 r3 * p2 + vo a1 a2 a3 b1 b2 b3 r1 r2 r3 p1 p2 p3 * q2 + vo a1 a2 a3 b1 b2 b3 p1 p2 p3 q1 q2 q3 * r2 = vo p1 p2 p3 q1 q2 q3 r1 r2 r3 b1 b2 b3 * a2 - vo p1 p2 p3 q1 q2 q3 r1 r2 r3 a1 a2 a3 * b2 := by unfold vo ar; grind
theorem vo_meet3 (a1 a2 a3 b1 b2 b3 p1 p2 p3 q1 q2 q3 r1 r2 r3 : Int) :
    vo a1 a2 a3 b1 b2 b3 q1 q2 q3 r1 r2 r3 * p3 + vo a1 a2 a3 b1 b2 b3 r1 r2 r3 p1 p2 p3 * q3 + vo a1 a2 a3 b1 b2 b3 p1 p2 p3 q1 q2 q3 * r3 = vo p1 p2 p3 q1 q2 q3 r1 r2 r3 b1 b2 b3 * a3 - vo p1 p2 p3 q1 q2 q3 r1 r2 r3 a1 a2 a3 * b3 := by unfold vo ar; grind
/-- A way's part along a triangle's normal. -/
def nd (p1 p2 p3 q1 q2 q3 r1 r2 r3 d1 d2 d3 : Int) : Int := ar p2 p3 q2 q3 r2 r3 * d1 + ar p3 p1 q3 q1 r3 r1 * d2 + ar p1 p2 q1 q2 r1 r2 * d3
theorem nd_vo (p1 p2 p3 q1 q2 q3 r1 r2 r3 d1 d2 d3 : Int) : vo p1 p2 p3 q1 q2 q3 r1 r2 r3 d1 d2 d3 = nd p1 p2 p3 q1 q2 q3 r1 r2 r3 (d1 - p1) (d2 - p2) (d3 - p3) := by unfold nd vo; rfl
theorem thr_a (p1 p2 p3 q1 q2 q3 r1 r2 r3 v w d1 d2 d3 : Int) : vo (8 * p1) (8 * p2) (8 * p3) (8 * q1) (8 * q2) (8 * q3) (8 * r1) (8 * r2) (8 * r3) ((8 - v - w) * p1 + v * q1 + w * r1 - d1) ((8 - v - w) * p2 + v * q2 + w * r2 - d2) ((8 - v - w) * p3 + v * q3 + w * r3 - d3) = -64 * nd p1 p2 p3 q1 q2 q3 r1 r2 r3 d1 d2 d3 := by unfold nd vo ar; grind
theorem thr_b (p1 p2 p3 q1 q2 q3 r1 r2 r3 v w d1 d2 d3 : Int) : vo (8 * p1) (8 * p2) (8 * p3) (8 * q1) (8 * q2) (8 * q3) (8 * r1) (8 * r2) (8 * r3) ((8 - v - w) * p1 + v * q1 + w * r1 + d1) ((8 - v - w) * p2 + v * q2 + w * r2 + d2) ((8 - v - w) * p3 + v * q3 + w * r3 + d3) = 64 * nd p1 p2 p3 q1 q2 q3 r1 r2 r3 d1 d2 d3 := by unfold nd vo ar; grind
theorem thr_c (p1 p2 p3 q1 q2 q3 r1 r2 r3 v w d1 d2 d3 : Int) : vo (8 * p1) (8 * p2) (8 * p3) (8 * q1) (8 * q2) (8 * q3) (8 * r1) (8 * r2) (8 * r3) ((8 - v - w) * p1 + v * q1 + w * r1 + 3 * d1) ((8 - v - w) * p2 + v * q2 + w * r2 + 3 * d2) ((8 - v - w) * p3 + v * q3 + w * r3 + 3 * d3) = 192 * nd p1 p2 p3 q1 q2 q3 r1 r2 r3 d1 d2 d3 := by unfold nd vo ar; grind
theorem thr_b0 (p1 p2 p3 q1 q2 q3 r1 r2 r3 v w d1 d2 d3 : Int) : vo ((8 - v - w) * p1 + v * q1 + w * r1 - d1) ((8 - v - w) * p2 + v * q2 + w * r2 - d2) ((8 - v - w) * p3 + v * q3 + w * r3 - d3) ((8 - v - w) * p1 + v * q1 + w * r1 + d1) ((8 - v - w) * p2 + v * q2 + w * r2 + d2) ((8 - v - w) * p3 + v * q3 + w * r3 + d3) (8 * p1) (8 * p2) (8 * p3) (8 * q1) (8 * q2) (8 * q3) = 16 * (w * nd p1 p2 p3 q1 q2 q3 r1 r2 r3 d1 d2 d3) := by unfold nd vo ar; grind
theorem thr_b1 (p1 p2 p3 q1 q2 q3 r1 r2 r3 v w d1 d2 d3 : Int) : vo ((8 - v - w) * p1 + v * q1 + w * r1 - d1) ((8 - v - w) * p2 + v * q2 + w * r2 - d2) ((8 - v - w) * p3 + v * q3 + w * r3 - d3) ((8 - v - w) * p1 + v * q1 + w * r1 + d1) ((8 - v - w) * p2 + v * q2 + w * r2 + d2) ((8 - v - w) * p3 + v * q3 + w * r3 + d3) (8 * q1) (8 * q2) (8 * q3) (8 * r1) (8 * r2) (8 * r3) = 16 * ((8 - v - w) * nd p1 p2 p3 q1 q2 q3 r1 r2 r3 d1 d2 d3) := by unfold nd vo ar; grind
theorem thr_b2 (p1 p2 p3 q1 q2 q3 r1 r2 r3 v w d1 d2 d3 : Int) : vo ((8 - v - w) * p1 + v * q1 + w * r1 - d1) ((8 - v - w) * p2 + v * q2 + w * r2 - d2) ((8 - v - w) * p3 + v * q3 + w * r3 - d3) ((8 - v - w) * p1 + v * q1 + w * r1 + d1) ((8 - v - w) * p2 + v * q2 + w * r2 + d2) ((8 - v - w) * p3 + v * q3 + w * r3 + d3) (8 * r1) (8 * r2) (8 * r3) (8 * p1) (8 * p2) (8 * p3) = 16 * (v * nd p1 p2 p3 q1 q2 q3 r1 r2 r3 d1 d2 d3) := by unfold nd vo ar; grind
theorem thr_c0 (p1 p2 p3 q1 q2 q3 r1 r2 r3 v w d1 d2 d3 : Int) : vo ((8 - v - w) * p1 + v * q1 + w * r1 - d1) ((8 - v - w) * p2 + v * q2 + w * r2 - d2) ((8 - v - w) * p3 + v * q3 + w * r3 - d3) ((8 - v - w) * p1 + v * q1 + w * r1 + 3 * d1) ((8 - v - w) * p2 + v * q2 + w * r2 + 3 * d2) ((8 - v - w) * p3 + v * q3 + w * r3 + 3 * d3) (8 * p1) (8 * p2) (8 * p3) (8 * q1) (8 * q2) (8 * q3) = 32 * (w * nd p1 p2 p3 q1 q2 q3 r1 r2 r3 d1 d2 d3) := by unfold nd vo ar; grind
theorem thr_c1 (p1 p2 p3 q1 q2 q3 r1 r2 r3 v w d1 d2 d3 : Int) : vo ((8 - v - w) * p1 + v * q1 + w * r1 - d1) ((8 - v - w) * p2 + v * q2 + w * r2 - d2) ((8 - v - w) * p3 + v * q3 + w * r3 - d3) ((8 - v - w) * p1 + v * q1 + w * r1 + 3 * d1) ((8 - v - w) * p2 + v * q2 + w * r2 + 3 * d2) ((8 - v - w) * p3 + v * q3 + w * r3 + 3 * d3) (8 * q1) (8 * q2) (8 * q3) (8 * r1) (8 * r2) (8 * r3) = 32 * ((8 - v - w) * nd p1 p2 p3 q1 q2 q3 r1 r2 r3 d1 d2 d3) := by unfold nd vo ar; grind
theorem thr_c2 (p1 p2 p3 q1 q2 q3 r1 r2 r3 v w d1 d2 d3 : Int) : vo ((8 - v - w) * p1 + v * q1 + w * r1 - d1) ((8 - v - w) * p2 + v * q2 + w * r2 - d2) ((8 - v - w) * p3 + v * q3 + w * r3 - d3) ((8 - v - w) * p1 + v * q1 + w * r1 + 3 * d1) ((8 - v - w) * p2 + v * q2 + w * r2 + 3 * d2) ((8 - v - w) * p3 + v * q3 + w * r3 + 3 * d3) (8 * r1) (8 * r2) (8 * r3) (8 * p1) (8 * p2) (8 * p3) = 32 * (v * nd p1 p2 p3 q1 q2 q3 r1 r2 r3 d1 d2 d3) := by unfold nd vo ar; grind

/-- Whether a way hits: its ends on unlike sides, and of three volumes none below 0, or none above. -/
def hitP (A B n0 n1 n2 : Int) : Bool := (ordI A 0 * ordI B 0 == -1) && (decide (0 ≤ n0 ∧ 0 ≤ n1 ∧ 0 ≤ n2) || decide (n0 ≤ 0 ∧ n1 ≤ 0 ∧ n2 ≤ 0))
def htB (a1 a2 a3 b1 b2 b3 p1 p2 p3 q1 q2 q3 r1 r2 r3 : Int) : Bool := hitP (vo p1 p2 p3 q1 q2 q3 r1 r2 r3 a1 a2 a3) (vo p1 p2 p3 q1 q2 q3 r1 r2 r3 b1 b2 b3) (vo a1 a2 a3 b1 b2 b3 p1 p2 p3 q1 q2 q3) (vo a1 a2 a3 b1 b2 b3 q1 q2 q3 r1 r2 r3) (vo a1 a2 a3 b1 b2 b3 r1 r2 r3 p1 p2 p3)
theorem so_neg (x : Int) : ordI (-x) 0 = -ordI x 0 := by
  rcases Int.lt_trichotomy x 0 with h | h | h
  · rw [ordI_lt h, ordI_gt (by omega)]; rfl
  · subst h; rfl
  · rw [ordI_gt h, ordI_lt (by omega)]
theorem so_unlike (A B : Int) : ordI A 0 * ordI B 0 = -1 ↔ (A < 0 ∧ 0 < B) ∨ (B < 0 ∧ 0 < A) := by
  rcases ordI_ways A 0 with ⟨h, e⟩ | ⟨h, e⟩ | ⟨h, e⟩ <;> rcases ordI_ways B 0 with ⟨k, f⟩ | ⟨k, f⟩ | ⟨k, f⟩ <;> rw [e, f] <;> omega
theorem hitP_iff (A B n0 n1 n2 : Int) : hitP A B n0 n1 n2 = true ↔ ((A < 0 ∧ 0 < B) ∨ (B < 0 ∧ 0 < A)) ∧ ((0 ≤ n0 ∧ 0 ≤ n1 ∧ 0 ≤ n2) ∨ (n0 ≤ 0 ∧ n1 ≤ 0 ∧ n2 ≤ 0)) := by
  unfold hitP
  rw [Bool.and_eq_true, Bool.or_eq_true, decide_eq_true_iff, decide_eq_true_iff, beq_iff_eq, so_unlike]
theorem bool_same {p q : Bool} (h : p = true ↔ q = true) : p = q := by cases p <;> cases q <;> simp_all
/-- Both ways, told round, two places changed. -/
theorem ht_back (a1 a2 a3 b1 b2 b3 p1 p2 p3 q1 q2 q3 r1 r2 r3 : Int) : htB b1 b2 b3 a1 a2 a3 p1 p2 p3 q1 q2 q3 r1 r2 r3 = htB a1 a2 a3 b1 b2 b3 p1 p2 p3 q1 q2 q3 r1 r2 r3 := by
  unfold htB
  rw [vo_ab a1 a2 a3 b1 b2 b3 p1 p2 p3 q1 q2 q3, vo_ab a1 a2 a3 b1 b2 b3 q1 q2 q3 r1 r2 r3, vo_ab a1 a2 a3 b1 b2 b3 r1 r2 r3 p1 p2 p3]
  refine bool_same ?_
  rw [hitP_iff, hitP_iff]
  omega
theorem ht_round (a1 a2 a3 b1 b2 b3 p1 p2 p3 q1 q2 q3 r1 r2 r3 : Int) : htB a1 a2 a3 b1 b2 b3 q1 q2 q3 r1 r2 r3 p1 p2 p3 = htB a1 a2 a3 b1 b2 b3 p1 p2 p3 q1 q2 q3 r1 r2 r3 := by
  unfold htB
  rw [vo_turn p1 p2 p3 q1 q2 q3 r1 r2 r3 a1 a2 a3, vo_turn p1 p2 p3 q1 q2 q3 r1 r2 r3 b1 b2 b3]
  refine bool_same ?_
  rw [hitP_iff, hitP_iff]
  omega
theorem ht_swap (a1 a2 a3 b1 b2 b3 p1 p2 p3 q1 q2 q3 r1 r2 r3 : Int) : htB a1 a2 a3 b1 b2 b3 p1 p2 p3 r1 r2 r3 q1 q2 q3 = htB a1 a2 a3 b1 b2 b3 p1 p2 p3 q1 q2 q3 r1 r2 r3 := by
  unfold htB
  rw [vo_bc p1 p2 p3 q1 q2 q3 r1 r2 r3 a1 a2 a3, vo_bc p1 p2 p3 q1 q2 q3 r1 r2 r3 b1 b2 b3, vo_cd a1 a2 a3 b1 b2 b3 r1 r2 r3 p1 p2 p3, vo_cd a1 a2 a3 b1 b2 b3 q1 q2 q3 r1 r2 r3, vo_cd a1 a2 a3 b1 b2 b3 p1 p2 p3 q1 q2 q3]
  refine bool_same ?_
  rw [hitP_iff, hitP_iff]
  omega
theorem ht_side (a1 a2 a3 p1 p2 p3 q1 q2 q3 r1 r2 r3 : Int) : ordI (vo p1 p2 p3 q1 q2 q3 r1 r2 r3 a1 a2 a3) 0 + ordI (vo q1 q2 q3 p1 p2 p3 r1 r2 r3 a1 a2 a3) 0 = 0 := by
  rw [vo_ab p1 p2 p3 q1 q2 q3 r1 r2 r3 a1 a2 a3, so_neg]; omega
theorem ht_unlike {a1 a2 a3 b1 b2 b3 p1 p2 p3 q1 q2 q3 r1 r2 r3 : Int} (h : htB a1 a2 a3 b1 b2 b3 p1 p2 p3 q1 q2 q3 r1 r2 r3 = true) : ordI (vo p1 p2 p3 q1 q2 q3 r1 r2 r3 a1 a2 a3) 0 * ordI (vo p1 p2 p3 q1 q2 q3 r1 r2 r3 b1 b2 b3) 0 < 0 := by
  have k := ((hitP_iff _ _ _ _ _).1 h).1
  have := (so_unlike (vo p1 p2 p3 q1 q2 q3 r1 r2 r3 a1 a2 a3) (vo p1 p2 p3 q1 q2 q3 r1 r2 r3 b1 b2 b3)).2 k
  omega

/-- A way beside a triangle, along one axis, does not hit it. -/
theorem beside_lt {A B n0 n1 n2 a b p q r m : Int} (e : n1 * p + n2 * q + n0 * r = B * a - A * b) (s : n0 + n1 + n2 = B - A) (hA : A < 0) (hB : 0 < B) (h0 : 0 ≤ n0) (h1 : 0 ≤ n1) (h2 : 0 ≤ n2) (ha : a ≤ m) (hb : b ≤ m) (hp : m < p) (hq : m < q) (hr : m < r) : False := by
  have i1 := Int.mul_le_mul_of_nonneg_left (show m + 1 ≤ p by omega) h1
  have i2 := Int.mul_le_mul_of_nonneg_left (show m + 1 ≤ q by omega) h2
  have i0 := Int.mul_le_mul_of_nonneg_left (show m + 1 ≤ r by omega) h0
  have j1 := Int.mul_le_mul_of_nonneg_left ha (show 0 ≤ B by omega)
  have j2 := Int.mul_le_mul_of_nonneg_left hb (show 0 ≤ -A by omega)
  have k : (n0 + n1 + n2) * (m + 1) = (B - A) * (m + 1) := by rw [s]
  rw [Int.add_mul, Int.add_mul] at k
  rw [Int.neg_mul, Int.neg_mul] at j2
  have k2 : (B - A) * (m + 1) = B * m - A * m + (B - A) := by grind
  omega
theorem beside_up {A B n0 n1 n2 a b p q r m : Int} (e : n1 * p + n2 * q + n0 * r = B * a - A * b) (s : n0 + n1 + n2 = B - A) (h : hitP A B n0 n1 n2 = true) (ha : a ≤ m) (hb : b ≤ m) (hp : m < p) (hq : m < q) (hr : m < r) : False := by
  obtain ⟨h1, h2⟩ := (hitP_iff _ _ _ _ _).1 h
  rcases h1 with ⟨x, y⟩ | ⟨x, y⟩ <;> rcases h2 with ⟨u, v, w⟩ | ⟨u, v, w⟩
  · exact beside_lt e s x y u v w ha hb hp hq hr
  · omega
  · omega
  · refine beside_lt (A := -A) (B := -B) (n0 := -n0) (n1 := -n1) (n2 := -n2) ?_ (by omega) (by omega) (by omega) (by omega) (by omega) (by omega) ha hb hp hq hr
    rw [Int.neg_mul, Int.neg_mul, Int.neg_mul, Int.neg_mul, Int.neg_mul]; omega
theorem beside_down {A B n0 n1 n2 a b p q r m : Int} (e : n1 * p + n2 * q + n0 * r = B * a - A * b) (s : n0 + n1 + n2 = B - A) (h : hitP A B n0 n1 n2 = true) (ha : m ≤ a) (hb : m ≤ b) (hp : p < m) (hq : q < m) (hr : r < m) : False := by
  refine beside_up (a := -a) (b := -b) (p := -p) (q := -q) (r := -r) (m := -m) ?_ s h (by omega) (by omega) (by omega) (by omega) (by omega)
  rw [Int.mul_neg, Int.mul_neg, Int.mul_neg, Int.mul_neg, Int.mul_neg]; omega
theorem ht_beside1 {a1 a2 a3 b1 b2 b3 p1 p2 p3 q1 q2 q3 r1 r2 r3 : Int} (h : htB a1 a2 a3 b1 b2 b3 p1 p2 p3 q1 q2 q3 r1 r2 r3 = true) : ¬ (max a1 b1 < min (min p1 q1) r1) ∧ ¬ (max (max p1 q1) r1 < min a1 b1) :=
  ⟨fun k => beside_up (m := max a1 b1) (vo_meet1 a1 a2 a3 b1 b2 b3 p1 p2 p3 q1 q2 q3 r1 r2 r3) (vo_sum a1 a2 a3 b1 b2 b3 p1 p2 p3 q1 q2 q3 r1 r2 r3) h (by omega) (by omega) (by omega) (by omega) (by omega),
    fun k => beside_down (m := min a1 b1) (vo_meet1 a1 a2 a3 b1 b2 b3 p1 p2 p3 q1 q2 q3 r1 r2 r3) (vo_sum a1 a2 a3 b1 b2 b3 p1 p2 p3 q1 q2 q3 r1 r2 r3) h (by omega) (by omega) (by omega) (by omega) (by omega)⟩
theorem ht_beside2 {a1 a2 a3 b1 b2 b3 p1 p2 p3 q1 q2 q3 r1 r2 r3 : Int} (h : htB a1 a2 a3 b1 b2 b3 p1 p2 p3 q1 q2 q3 r1 r2 r3 = true) : ¬ (max a2 b2 < min (min p2 q2) r2) ∧ ¬ (max (max p2 q2) r2 < min a2 b2) :=
  ⟨fun k => beside_up (m := max a2 b2) (vo_meet2 a1 a2 a3 b1 b2 b3 p1 p2 p3 q1 q2 q3 r1 r2 r3) (vo_sum a1 a2 a3 b1 b2 b3 p1 p2 p3 q1 q2 q3 r1 r2 r3) h (by omega) (by omega) (by omega) (by omega) (by omega),
    fun k => beside_down (m := min a2 b2) (vo_meet2 a1 a2 a3 b1 b2 b3 p1 p2 p3 q1 q2 q3 r1 r2 r3) (vo_sum a1 a2 a3 b1 b2 b3 p1 p2 p3 q1 q2 q3 r1 r2 r3) h (by omega) (by omega) (by omega) (by omega) (by omega)⟩
theorem ht_beside3 {a1 a2 a3 b1 b2 b3 p1 p2 p3 q1 q2 q3 r1 r2 r3 : Int} (h : htB a1 a2 a3 b1 b2 b3 p1 p2 p3 q1 q2 q3 r1 r2 r3 = true) : ¬ (max a3 b3 < min (min p3 q3) r3) ∧ ¬ (max (max p3 q3) r3 < min a3 b3) :=
  ⟨fun k => beside_up (m := max a3 b3) (vo_meet3 a1 a2 a3 b1 b2 b3 p1 p2 p3 q1 q2 q3 r1 r2 r3) (vo_sum a1 a2 a3 b1 b2 b3 p1 p2 p3 q1 q2 q3 r1 r2 r3) h (by omega) (by omega) (by omega) (by omega) (by omega),
    fun k => beside_down (m := min a3 b3) (vo_meet3 a1 a2 a3 b1 b2 b3 p1 p2 p3 q1 q2 q3 r1 r2 r3) (vo_sum a1 a2 a3 b1 b2 b3 p1 p2 p3 q1 q2 q3 r1 r2 r3) h (by omega) (by omega) (by omega) (by omega) (by omega)⟩
theorem ht_through_b (p1 p2 p3 q1 q2 q3 r1 r2 r3 v w d1 d2 d3 : Int) (hu : 0 ≤ 8 - v - w) (hv : 0 ≤ v) (hw : 0 ≤ w) : htB ((8 - v - w) * p1 + v * q1 + w * r1 - d1) ((8 - v - w) * p2 + v * q2 + w * r2 - d2) ((8 - v - w) * p3 + v * q3 + w * r3 - d3) ((8 - v - w) * p1 + v * q1 + w * r1 + d1) ((8 - v - w) * p2 + v * q2 + w * r2 + d2) ((8 - v - w) * p3 + v * q3 + w * r3 + d3) (8 * p1) (8 * p2) (8 * p3) (8 * q1) (8 * q2) (8 * q3) (8 * r1) (8 * r2) (8 * r3) = (nd p1 p2 p3 q1 q2 q3 r1 r2 r3 d1 d2 d3 != 0) := by
  unfold htB
  rw [thr_a, thr_b, thr_b0, thr_b1, thr_b2]
  generalize nd p1 p2 p3 q1 q2 q3 r1 r2 r3 d1 d2 d3 = D
  generalize 8 - v - w = u at *
  refine bool_same ?_
  rw [hitP_iff, bne_iff_ne]
  constructor
  · rintro ⟨h, _⟩; omega
  · intro h
    refine ⟨by omega, ?_⟩
    rcases Int.lt_or_lt_of_ne h with k | k
    · have x := Int.mul_nonneg hu (show 0 ≤ -D by omega)
      have y := Int.mul_nonneg hv (show 0 ≤ -D by omega)
      have z := Int.mul_nonneg hw (show 0 ≤ -D by omega)
      rw [Int.mul_neg] at x y z
      exact .inr ⟨by omega, by omega, by omega⟩
    · have x := Int.mul_nonneg hu (show 0 ≤ D by omega)
      have y := Int.mul_nonneg hv (show 0 ≤ D by omega)
      have z := Int.mul_nonneg hw (show 0 ≤ D by omega)
      exact .inl ⟨by omega, by omega, by omega⟩
theorem ht_through_c (p1 p2 p3 q1 q2 q3 r1 r2 r3 v w d1 d2 d3 : Int) (hu : 0 ≤ 8 - v - w) (hv : 0 ≤ v) (hw : 0 ≤ w) : htB ((8 - v - w) * p1 + v * q1 + w * r1 - d1) ((8 - v - w) * p2 + v * q2 + w * r2 - d2) ((8 - v - w) * p3 + v * q3 + w * r3 - d3) ((8 - v - w) * p1 + v * q1 + w * r1 + 3 * d1) ((8 - v - w) * p2 + v * q2 + w * r2 + 3 * d2) ((8 - v - w) * p3 + v * q3 + w * r3 + 3 * d3) (8 * p1) (8 * p2) (8 * p3) (8 * q1) (8 * q2) (8 * q3) (8 * r1) (8 * r2) (8 * r3) = (nd p1 p2 p3 q1 q2 q3 r1 r2 r3 d1 d2 d3 != 0) := by
  unfold htB
  rw [thr_a, thr_c, thr_c0, thr_c1, thr_c2]
  generalize nd p1 p2 p3 q1 q2 q3 r1 r2 r3 d1 d2 d3 = D
  generalize 8 - v - w = u at *
  refine bool_same ?_
  rw [hitP_iff, bne_iff_ne]
  constructor
  · rintro ⟨h, _⟩; omega
  · intro h
    refine ⟨by omega, ?_⟩
    rcases Int.lt_or_lt_of_ne h with k | k
    · have x := Int.mul_nonneg hu (show 0 ≤ -D by omega)
      have y := Int.mul_nonneg hv (show 0 ≤ -D by omega)
      have z := Int.mul_nonneg hw (show 0 ≤ -D by omega)
      rw [Int.mul_neg] at x y z
      exact .inr ⟨by omega, by omega, by omega⟩
    · have x := Int.mul_nonneg hu (show 0 ≤ D by omega)
      have y := Int.mul_nonneg hv (show 0 ≤ D by omega)
      have z := Int.mul_nonneg hw (show 0 ≤ D by omega)
      exact .inl ⟨by omega, by omega, by omega⟩
theorem ht_through_side (p1 p2 p3 q1 q2 q3 r1 r2 r3 v w d1 d2 d3 : Int) : (ordI (vo (8 * p1) (8 * p2) (8 * p3) (8 * q1) (8 * q2) (8 * q3) (8 * r1) (8 * r2) (8 * r3) ((8 - v - w) * p1 + v * q1 + w * r1 - d1) ((8 - v - w) * p2 + v * q2 + w * r2 - d2) ((8 - v - w) * p3 + v * q3 + w * r3 - d3)) 0 != 0) = (nd p1 p2 p3 q1 q2 q3 r1 r2 r3 d1 d2 d3 != 0) := by
  rw [thr_a]
  generalize nd p1 p2 p3 q1 q2 q3 r1 r2 r3 d1 d2 d3 = D
  refine bool_same ?_
  rw [bne_iff_ne, bne_iff_ne]
  rcases ordI_ways (-64 * D) 0 with ⟨h, e⟩ | ⟨h, e⟩ | ⟨h, e⟩ <;> rw [e] <;> omega
end Go.Proofs.Ytfghjfgdjlkooaa
