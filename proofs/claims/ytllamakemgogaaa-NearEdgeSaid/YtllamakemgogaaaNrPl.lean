/-
  Plain facts on edges and the points of them that are closest: feet, squares. No program in sight.
-/
import Derived.Test.YtllamakemgogaaaMtPl
import Derived.Test.YtllamakemgogaaaWhPl
namespace Go.Proofs.Ytllamakemgogaaa

/-- The way along an edge from a to b, of a point p; the square of a way. -/
def em (x y a1 a2 b1 b2 : Int) : Int := (x - a1) * (b1 - a1) + (y - a2) * (b2 - a2)
def sq (a1 a2 b1 b2 : Int) : Int := (b1 - a1) * (b1 - a1) + (b2 - a2) * (b2 - a2)
/-- Which of three a foot is. -/
def eK (m n : Int) : Int := if m ≤ 0 then 0 else if n ≤ m then 1 else 2
def w3 (k p q r : Int) : Int := if k = 0 then p else if k = 1 then q else r
theorem w3_0 (p q r : Int) : w3 0 p q r = p := rfl
theorem w3_1 (p q r : Int) : w3 1 p q r = q := rfl
theorem w3_2 (p q r : Int) : w3 2 p q r = r := rfl
def fK (x y a1 a2 b1 b2 : Int) : Int := eK (em x y a1 a2 b1 b2) (sq a1 a2 b1 b2)
def fX (x y a1 a2 b1 b2 : Int) : Int := w3 (fK x y a1 a2 b1 b2) a1 b1 (a1 + (b1 - a1) * em x y a1 a2 b1 b2 / sq a1 a2 b1 b2)
def fY (x y a1 a2 b1 b2 : Int) : Int := w3 (fK x y a1 a2 b1 b2) a2 b2 (a2 + (b2 - a2) * em x y a1 a2 b1 b2 / sq a1 a2 b1 b2)
def fN (x y a1 a2 b1 b2 : Int) : Int := w3 (fK x y a1 a2 b1 b2) (sq x y a1 a2) (sq x y b1 b2) (ar a1 a2 b1 b2 x y * ar a1 a2 b1 b2 x y)
def fD (x y a1 a2 b1 b2 : Int) : Int := w3 (fK x y a1 a2 b1 b2) 1 1 (sq a1 a2 b1 b2)
theorem eK_ways (m n : Int) : (m ≤ 0 ∧ eK m n = 0) ∨ (0 < m ∧ n ≤ m ∧ eK m n = 1) ∨ (0 < m ∧ m < n ∧ eK m n = 2) := by
  unfold eK
  by_cases h : m ≤ 0
  · rw [if_pos h]; exact .inl ⟨h, rfl⟩
  · rw [if_neg h]
    by_cases k : n ≤ m
    · rw [if_pos k]; exact .inr (.inl ⟨by omega, k, rfl⟩)
    · rw [if_neg k]; exact .inr (.inr ⟨by omega, by omega, rfl⟩)
theorem sq_nn (x : Int) : 0 ≤ x * x := by
  rcases Int.le_total 0 x with h | h
  · exact Int.mul_nonneg h h
  · have := Int.mul_nonneg (show 0 ≤ -x by omega) (show 0 ≤ -x by omega); rwa [Int.neg_mul_neg] at this
theorem sq_nn2 (a1 a2 b1 b2 : Int) : 0 ≤ sq a1 a2 b1 b2 := by
  have := sq_nn (b1 - a1); have := sq_nn (b2 - a2); unfold sq; omega
theorem sq_sym (a1 a2 b1 b2 : Int) : sq b1 b2 a1 a2 = sq a1 a2 b1 b2 := by unfold sq; grind
theorem em_rev (x y a1 a2 b1 b2 : Int) : em x y b1 b2 a1 a2 = sq a1 a2 b1 b2 - em x y a1 a2 b1 b2 := by unfold sq em; grind
theorem sq_zero2 {a1 a2 b1 b2 : Int} (h : sq a1 a2 b1 b2 = 0) : a1 = b1 ∧ a2 = b2 := by
  have p := sq_nn (b1 - a1); have q := sq_nn (b2 - a2); unfold sq at h
  have z1 : (b1 - a1) * (b1 - a1) = 0 := by omega
  have z2 : (b2 - a2) * (b2 - a2) = 0 := by omega
  have u1 := (Int.mul_eq_zero.1 z1)
  have u2 := (Int.mul_eq_zero.1 z2)
  omega
/-- Crosswise and along: the two parts of a way. -/
theorem lag (x y a1 a2 b1 b2 : Int) : sq a1 a2 b1 b2 * sq x y a1 a2 = ar a1 a2 b1 b2 x y * ar a1 a2 b1 b2 x y + em x y a1 a2 b1 b2 * em x y a1 a2 b1 b2 := by unfold sq em ar; grind

/-- How far p is, times t = u + v, from u times a and v times b: the square of it. -/
def gw (x y a1 a2 b1 b2 u v : Int) : Int := ((u + v) * x - (u * a1 + v * b1)) * ((u + v) * x - (u * a1 + v * b1)) + ((u + v) * y - (u * a2 + v * b2)) * ((u + v) * y - (u * a2 + v * b2))
theorem gw_a (x y a1 a2 b1 b2 u v : Int) : gw x y a1 a2 b1 b2 u v = (u + v) * (u + v) * sq x y a1 a2 - 2 * ((u + v) * v * em x y a1 a2 b1 b2) + v * v * sq a1 a2 b1 b2 := by unfold gw sq em; grind
theorem gw_b (x y a1 a2 b1 b2 u v : Int) : gw x y a1 a2 b1 b2 u v = (u + v) * (u + v) * sq x y b1 b2 + 2 * ((u + v) * u * (em x y a1 a2 b1 b2 - sq a1 a2 b1 b2)) + u * u * sq a1 a2 b1 b2 := by unfold gw sq em; grind
theorem gw_c (x y a1 a2 b1 b2 u v : Int) : sq a1 a2 b1 b2 * gw x y a1 a2 b1 b2 u v = ar a1 a2 b1 b2 x y * ar a1 a2 b1 b2 x y * ((u + v) * (u + v)) + ((u + v) * em x y a1 a2 b1 b2 - v * sq a1 a2 b1 b2) * ((u + v) * em x y a1 a2 b1 b2 - v * sq a1 a2 b1 b2) := by
  have h := lag x y a1 a2 b1 b2
  rw [gw_a]
  generalize sq x y a1 a2 = s at *
  generalize sq a1 a2 b1 b2 = n at *
  generalize em x y a1 a2 b1 b2 = m at *
  generalize ar a1 a2 b1 b2 x y = r at *
  grind
/-- No point of the edge is nearer than its foot. -/
theorem edge_least {x y a1 a2 b1 b2 u v : Int} (hu : 0 ≤ u) (hv : 0 ≤ v) : fN x y a1 a2 b1 b2 * ((u + v) * (u + v)) ≤ fD x y a1 a2 b1 b2 * gw x y a1 a2 b1 b2 u v := by
  have hn := sq_nn2 a1 a2 b1 b2
  have ht : 0 ≤ u + v := by omega
  unfold fN fD fK
  rcases eK_ways (em x y a1 a2 b1 b2) (sq a1 a2 b1 b2) with ⟨h, e⟩ | ⟨h, k, e⟩ | ⟨h, k, e⟩ <;> rw [e]
  · rw [w3_0, w3_0, gw_a, Int.one_mul, Int.mul_comm (sq x y a1 a2)]
    have q := Int.mul_nonneg (Int.mul_nonneg ht hv) (show 0 ≤ -em x y a1 a2 b1 b2 by omega)
    rw [Int.mul_neg] at q
    have q2 := Int.mul_nonneg (sq_nn v) hn
    omega
  · rw [w3_1, w3_1, gw_b, Int.one_mul, Int.mul_comm (sq x y b1 b2)]
    have q := Int.mul_nonneg (Int.mul_nonneg ht hu) (show 0 ≤ em x y a1 a2 b1 b2 - sq a1 a2 b1 b2 by omega)
    have q2 := Int.mul_nonneg (sq_nn u) hn
    omega
  · rw [w3_2, w3_2, gw_c]
    have q := sq_nn ((u + v) * em x y a1 a2 b1 b2 - v * sq a1 a2 b1 b2)
    omega
theorem edge_a (x y a1 a2 b1 b2 : Int) : fN x y a1 a2 b1 b2 ≤ fD x y a1 a2 b1 b2 * sq x y a1 a2 := by
  have h := edge_least (x := x) (y := y) (a1 := a1) (a2 := a2) (b1 := b1) (b2 := b2) (u := 1) (v := 0) (by omega) (by omega)
  rw [show gw x y a1 a2 b1 b2 1 0 = sq x y a1 a2 from by unfold gw sq; grind] at h
  simpa using h
theorem edge_b (x y a1 a2 b1 b2 : Int) : fN x y a1 a2 b1 b2 ≤ fD x y a1 a2 b1 b2 * sq x y b1 b2 := by
  have h := edge_least (x := x) (y := y) (a1 := a1) (a2 := a2) (b1 := b1) (b2 := b2) (u := 0) (v := 1) (by omega) (by omega)
  rw [show gw x y a1 a2 b1 b2 0 1 = sq x y b1 b2 from by unfold gw sq; grind] at h
  simpa using h

/-- Sizes. -/
theorem prod_bd {a b : Int} (ha : -8192 ≤ a ∧ a ≤ 8192) (hb : -8192 ≤ b ∧ b ≤ 8192) : -67108864 ≤ a * b ∧ a * b ≤ 67108864 := by
  have p := abs_prod (a := a) (b := b) (m := 8192) (n := 8192) (by omega) (by omega)
  omega
theorem em_bd {x y a1 a2 b1 b2 : Int} (hp : s2 x y = true) (ha : s2 a1 a2 = true) (hb : s2 b1 b2 = true) : -134217728 ≤ em x y a1 a2 b1 b2 ∧ em x y a1 a2 b1 b2 ≤ 134217728 := by
  obtain ⟨h1, h2⟩ := s2_iff.1 hp
  obtain ⟨i1, i2⟩ := s2_iff.1 ha
  obtain ⟨j1, j2⟩ := s2_iff.1 hb
  unfold SM at *
  have p := prod_bd (a := x - a1) (b := b1 - a1) (by omega) (by omega)
  have q := prod_bd (a := y - a2) (b := b2 - a2) (by omega) (by omega)
  unfold em; omega
theorem sq_bd {a1 a2 b1 b2 : Int} (ha : s2 a1 a2 = true) (hb : s2 b1 b2 = true) : 0 ≤ sq a1 a2 b1 b2 ∧ sq a1 a2 b1 b2 ≤ 134217728 := by
  refine ⟨sq_nn2 _ _ _ _, ?_⟩
  obtain ⟨i1, i2⟩ := s2_iff.1 ha
  obtain ⟨j1, j2⟩ := s2_iff.1 hb
  unfold SM at *
  have p := prod_bd (a := b1 - a1) (b := b1 - a1) (by omega) (by omega)
  have q := prod_bd (a := b2 - a2) (b := b2 - a2) (by omega) (by omega)
  unfold sq; omega
theorem ar_s2 {a1 a2 b1 b2 c1 c2 : Int} (ha : s2 a1 a2 = true) (hb : s2 b1 b2 = true) (hc : s2 c1 c2 = true) : -134217728 ≤ ar a1 a2 b1 b2 c1 c2 ∧ ar a1 a2 b1 b2 c1 c2 ≤ 134217728 := by
  obtain ⟨h1, h2⟩ := s2_iff.1 ha
  obtain ⟨i1, i2⟩ := s2_iff.1 hb
  obtain ⟨j1, j2⟩ := s2_iff.1 hc
  exact ar_bd2 h1 h2 i1 i2 j1 j2
theorem ar_sq_bd {a1 a2 b1 b2 c1 c2 : Int} (ha : s2 a1 a2 = true) (hb : s2 b1 b2 = true) (hc : s2 c1 c2 = true) : 0 ≤ ar a1 a2 b1 b2 c1 c2 * ar a1 a2 b1 b2 c1 c2 ∧ ar a1 a2 b1 b2 c1 c2 * ar a1 a2 b1 b2 c1 c2 ≤ 18014398509481984 := by
  have h := ar_s2 ha hb hc
  have p := abs_prod (a := ar a1 a2 b1 b2 c1 c2) (b := ar a1 a2 b1 b2 c1 c2) (m := 134217728) (n := 134217728) (by omega) (by omega)
  exact ⟨sq_nn _, by omega⟩
theorem edge_fr {x y a1 a2 b1 b2 : Int} (hp : s2 x y = true) (ha : s2 a1 a2 = true) (hb : s2 b1 b2 = true) : FR (fN x y a1 a2 b1 b2) (fD x y a1 a2 b1 b2) ∧ 0 ≤ fN x y a1 a2 b1 b2 := by
  have n := sq_bd ha hb
  have p := sq_bd hp ha
  have q := sq_bd hp hb
  have r := ar_sq_bd ha hb hp
  unfold fN fD fK FR
  rcases eK_ways (em x y a1 a2 b1 b2) (sq a1 a2 b1 b2) with ⟨h, e⟩ | ⟨h, k, e⟩ | ⟨h, k, e⟩ <;> rw [e]
  · simp only [w3_0]; omega
  · simp only [w3_1]; omega
  · simp only [w3_2]; omega
theorem fr_one {n : Int} (h : 0 ≤ n ∧ n ≤ 134217728) : FR n 1 := by unfold FR; omega
theorem cmp_le {n d m : Int} (h : FR n d) (k : FR m 1) (l : n ≤ d * m) : cmpF n d m 1 ≤ 0 := by
  rw [cmpF_right h k, Int.mul_one, Int.mul_comm m]
  rcases ordI_ways n (d * m) with ⟨_, e⟩ | ⟨_, e⟩ | ⟨q, _⟩
  · omega
  · omega
  · omega
theorem edge_cmp_a {x y a1 a2 b1 b2 : Int} (hp : s2 x y = true) (ha : s2 a1 a2 = true) (hb : s2 b1 b2 = true) : cmpF (fN x y a1 a2 b1 b2) (fD x y a1 a2 b1 b2) (sq x y a1 a2) 1 ≤ 0 := cmp_le (edge_fr hp ha hb).1 (fr_one (sq_bd hp ha)) (edge_a x y a1 a2 b1 b2)
theorem edge_cmp_b {x y a1 a2 b1 b2 : Int} (hp : s2 x y = true) (ha : s2 a1 a2 = true) (hb : s2 b1 b2 = true) : cmpF (fN x y a1 a2 b1 b2) (fD x y a1 a2 b1 b2) (sq x y b1 b2) 1 ≤ 0 := cmp_le (edge_fr hp ha hb).1 (fr_one (sq_bd hp hb)) (edge_b x y a1 a2 b1 b2)
/-- Told from the other end an edge is as far. -/
theorem edge_rev (x y a1 a2 b1 b2 : Int) : fN x y b1 b2 a1 a2 = fN x y a1 a2 b1 b2 ∧ fD x y b1 b2 a1 a2 = fD x y a1 a2 b1 b2 ∧ (fK x y b1 b2 a1 a2 == 2) = (fK x y a1 a2 b1 b2 == 2) := by
  have hn := sq_nn2 a1 a2 b1 b2
  have hz := sq_zero2 (a1 := a1) (a2 := a2) (b1 := b1) (b2 := b2)
  have hs : ar b1 b2 a1 a2 x y * ar b1 b2 a1 a2 x y = ar a1 a2 b1 b2 x y * ar a1 a2 b1 b2 x y := by unfold ar; grind
  unfold fN fD fK
  rw [em_rev x y a1 a2 b1 b2, sq_sym a1 a2 b1 b2, hs]
  rcases eK_ways (em x y a1 a2 b1 b2) (sq a1 a2 b1 b2) with ⟨h, e⟩ | ⟨h, k, e⟩ | ⟨h, k, e⟩ <;> rcases eK_ways (sq a1 a2 b1 b2 - em x y a1 a2 b1 b2) (sq a1 a2 b1 b2) with ⟨h', e'⟩ | ⟨h', k', e'⟩ | ⟨h', k', e'⟩ <;> rw [e, e']
  · obtain ⟨z1, z2⟩ := hz (by omega)
    rw [z1, z2]; exact ⟨rfl, rfl, rfl⟩
  · exact ⟨rfl, rfl, rfl⟩
  · omega
  · exact ⟨rfl, rfl, rfl⟩
  · omega
  · omega
  · omega
  · omega
  · exact ⟨rfl, rfl, rfl⟩
theorem div_between {z lo hi n : Int} (hn : 0 < n) (h : lo * n ≤ z) (k : z ≤ hi * n) : lo ≤ z / n ∧ z / n ≤ hi :=
  ⟨(Int.le_ediv_iff_mul_le hn).2 h, Int.ediv_le_of_le_mul hn k⟩
/-- A part of a foot lies between those of the ends. -/
theorem part_box {a b m n : Int} (h : 0 < m) (k : m < n) : min a b ≤ a + (b - a) * m / n ∧ a + (b - a) * m / n ≤ max a b := by
  have hn : 0 < n := by omega
  rcases Int.le_total a b with u | u
  · have q1 := Int.mul_nonneg (show 0 ≤ b - a by omega) (show 0 ≤ m by omega)
    have q2 := Int.mul_le_mul_of_nonneg_left (show m ≤ n by omega) (show 0 ≤ b - a by omega)
    have := div_between (z := (b - a) * m) (lo := 0) (hi := b - a) hn (by omega) q2
    omega
  · have q1 := Int.mul_nonneg (show 0 ≤ a - b by omega) (show 0 ≤ m by omega)
    have q2 := Int.mul_le_mul_of_nonneg_left (show m ≤ n by omega) (show 0 ≤ a - b by omega)
    have e1 : (b - a) * m = -((a - b) * m) := by rw [← Int.neg_mul]; congr 1; omega
    have e2 : (b - a) * n = -((a - b) * n) := by rw [← Int.neg_mul]; congr 1; omega
    have := div_between (z := (b - a) * m) (lo := b - a) (hi := 0) hn (by omega) (by omega)
    omega
theorem foot_box (x y a1 a2 b1 b2 : Int) : (min a1 b1 ≤ fX x y a1 a2 b1 b2 ∧ fX x y a1 a2 b1 b2 ≤ max a1 b1) ∧ (min a2 b2 ≤ fY x y a1 a2 b1 b2 ∧ fY x y a1 a2 b1 b2 ≤ max a2 b2) := by
  unfold fX fY fK
  rcases eK_ways (em x y a1 a2 b1 b2) (sq a1 a2 b1 b2) with ⟨h, e⟩ | ⟨h, k, e⟩ | ⟨h, k, e⟩ <;> rw [e]
  · simp only [w3_0]; omega
  · simp only [w3_1]; omega
  · simp only [w3_2]; exact ⟨part_box h k, part_box h k⟩
theorem fK_ways (x y a1 a2 b1 b2 : Int) : (fK x y a1 a2 b1 b2 = 0 ∧ fX x y a1 a2 b1 b2 = a1 ∧ fY x y a1 a2 b1 b2 = a2 ∧ fN x y a1 a2 b1 b2 = sq x y a1 a2 ∧ fD x y a1 a2 b1 b2 = 1) ∨ (fK x y a1 a2 b1 b2 = 1 ∧ fX x y a1 a2 b1 b2 = b1 ∧ fY x y a1 a2 b1 b2 = b2 ∧ fD x y a1 a2 b1 b2 = 1) ∨ fK x y a1 a2 b1 b2 = 2 := by
  unfold fX fY fN fD
  rcases eK_ways (em x y a1 a2 b1 b2) (sq a1 a2 b1 b2) with ⟨h, e⟩ | ⟨h, k, e⟩ | ⟨h, k, e⟩ <;> rw [show fK x y a1 a2 b1 b2 = _ from e]
  · exact .inl ⟨rfl, rfl, rfl, rfl, rfl⟩
  · exact .inr (.inl ⟨rfl, rfl, rfl, rfl⟩)
  · exact .inr (.inr rfl)
/-- The lesser of two, by how they stand. -/
def l2 (c p q : Int) : Int := if c < 0 then q else p
theorem l2_yes {c : Int} (p q : Int) (h : c < 0) : l2 c p q = q := if_pos h
theorem l2_no {c : Int} (p q : Int) (h : ¬ c < 0) : l2 c p q = p := if_neg h
theorem l2_least (n d m e : Int) : cmpF (l2 (cmpF m e n d) n m) (l2 (cmpF m e n d) d e) n d ≤ 0 ∧ cmpF (l2 (cmpF m e n d) n m) (l2 (cmpF m e n d) d e) m e ≤ 0 := by
  by_cases h : cmpF m e n d < 0
  · rw [l2_yes _ _ h, l2_yes _ _ h, cmpF_self]; omega
  · rw [l2_no _ _ h, l2_no _ _ h, cmpF_self]
    have := cmpF_both m e n d; omega
/-- The least of three. -/
theorem l3_least (n0 d0 n1 d1 n2 d2 n d : Int)
    (hn : n = l2 (cmpF n2 d2 (l2 (cmpF n1 d1 n0 d0) n0 n1) (l2 (cmpF n1 d1 n0 d0) d0 d1)) (l2 (cmpF n1 d1 n0 d0) n0 n1) n2)
    (hd : d = l2 (cmpF n2 d2 (l2 (cmpF n1 d1 n0 d0) n0 n1) (l2 (cmpF n1 d1 n0 d0) d0 d1)) (l2 (cmpF n1 d1 n0 d0) d0 d1) d2) : cmpF n d n0 d0 ≤ 0 ∧ cmpF n d n1 d1 ≤ 0 ∧ cmpF n d n2 d2 ≤ 0 := by
  have p := l2_least n0 d0 n1 d1
  have q := l2_least (l2 (cmpF n1 d1 n0 d0) n0 n1) (l2 (cmpF n1 d1 n0 d0) d0 d1) n2 d2
  rw [← hn, ← hd] at q
  exact ⟨(cmpF_trans _ _ _ _ _ _ q.1 p.1).1, (cmpF_trans _ _ _ _ _ _ q.1 p.2).1, q.2⟩
end Go.Proofs.Ytllamakemgogaaa
