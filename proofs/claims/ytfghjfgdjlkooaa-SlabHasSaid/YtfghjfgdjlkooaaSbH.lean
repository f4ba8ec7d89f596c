/-
  Ways that meet a box: both ways, a greater box, an end, a middle, a hit triangle's box. No program.
-/
import Derived.Test.YtfghjfgdjlkooaaSbE
import Derived.Test.YtfghjfgdjlkooaaHtG
namespace Go.Proofs.Ytfghjfgdjlkooaa

theorem meP_iff {a1 a2 a3 c1 c2 c3 l1 l2 l3 h1 h2 h3 : Int} : meP a1 a2 a3 c1 c2 c3 l1 l2 l3 h1 h2 h3 = true ↔ ∃ n d : Int, 0 < d ∧ 0 ≤ n ∧ n ≤ d ∧ btw a1 c1 l1 h1 n d ∧ btw a2 c2 l2 h2 n d ∧ btw a3 c3 l3 h3 n d := by
  unfold meP
  rw [mtP_iff]
  unfold mets
  constructor
  · rintro ⟨n, d, p, q, r, b⟩
    exact ⟨n, d, p, q, r, b 0 (by omega), b 1 (by omega), b 2 (by omega)⟩
  · rintro ⟨n, d, p, q, r, b0, b1, b2⟩
    exact ⟨n, d, p, q, r, three.2 ⟨b0, b1, b2⟩⟩
theorem meP_back (a1 a2 a3 c1 c2 c3 l1 l2 l3 h1 h2 h3 : Int) : meP c1 c2 c3 a1 a2 a3 l1 l2 l3 h1 h2 h3 = meP a1 a2 a3 c1 c2 c3 l1 l2 l3 h1 h2 h3 := mtP_back _ _ _ _
theorem btw_more {a c l h u v n d : Int} (hd : 0 < d) (hl : u ≤ l) (hh : h ≤ v) (b : btw a c l h n d) : btw a c u v n d := by
  have p1 := Int.mul_le_mul_of_nonneg_right hl (show 0 ≤ d by omega)
  have p2 := Int.mul_le_mul_of_nonneg_right hh (show 0 ≤ d by omega)
  unfold btw at *
  omega
theorem meP_more {a1 a2 a3 c1 c2 c3 l1 l2 l3 h1 h2 h3 : Int} (m1 m2 m3 k1 k2 k3 : Int) (m : meP a1 a2 a3 c1 c2 c3 l1 l2 l3 h1 h2 h3 = true) :
    meP a1 a2 a3 c1 c2 c3 (min l1 m1) (min l2 m2) (min l3 m3) (max h1 k1) (max h2 k2) (max h3 k3) = true := by
  obtain ⟨n, d, p, q, r, b0, b1, b2⟩ := meP_iff.1 m
  exact meP_iff.2 ⟨n, d, p, q, r, btw_more p (by omega) (by omega) b0, btw_more p (by omega) (by omega) b1, btw_more p (by omega) (by omega) b2⟩
theorem meP_first {a1 a2 a3 l1 l2 l3 h1 h2 h3 : Int} (c1 c2 c3 : Int) (k : bxH l1 l2 l3 h1 h2 h3 a1 a2 a3 = true) : meP a1 a2 a3 c1 c2 c3 l1 l2 l3 h1 h2 h3 = true := by
  obtain ⟨-, ⟨q1, q2, q3⟩, q4, q5, q6⟩ := bxH_iff.1 k
  refine meP_iff.2 ⟨0, 1, by decide, by decide, by decide, ?_, ?_, ?_⟩ <;> unfold btw <;> omega
theorem meP_last {c1 c2 c3 l1 l2 l3 h1 h2 h3 : Int} (a1 a2 a3 : Int) (k : bxH l1 l2 l3 h1 h2 h3 c1 c2 c3 = true) : meP a1 a2 a3 c1 c2 c3 l1 l2 l3 h1 h2 h3 = true := by
  rw [← meP_back]; exact meP_first a1 a2 a3 k
theorem meP_side {a1 a2 a3 c1 c2 c3 l1 l2 l3 h1 h2 h3 : Int} (m : meP a1 a2 a3 c1 c2 c3 l1 l2 l3 h1 h2 h3 = true) : ¬ max a1 c1 < l1 ∧ ¬ h2 < min a2 c2 := by
  obtain ⟨n, d, p, q, r, b0, b1, b2⟩ := meP_iff.1 m
  have r0 := btw_rch p q r b0
  have r1 := btw_rch p q r b1
  unfold rch at r0 r1
  omega
theorem meP_half {p1 p2 p3 l1 l2 l3 h1 h2 h3 : Int} (d1 d2 d3 : Int) (k : bxH l1 l2 l3 h1 h2 h3 p1 p2 p3 = true) : meP (p1 - d1) (p2 - d2) (p3 - d3) (p1 + d1) (p2 + d2) (p3 + d3) l1 l2 l3 h1 h2 h3 = true := by
  obtain ⟨-, ⟨q1, q2, q3⟩, q4, q5, q6⟩ := bxH_iff.1 k
  refine meP_iff.2 ⟨1, 2, by decide, by decide, by decide, ?_, ?_, ?_⟩ <;> unfold btw <;> omega
theorem meP_quarter {p1 p2 p3 l1 l2 l3 h1 h2 h3 : Int} (d1 d2 d3 : Int) (k : bxH l1 l2 l3 h1 h2 h3 p1 p2 p3 = true) : meP (p1 + 3 * d1) (p2 + 3 * d2) (p3 + 3 * d3) (p1 - d1) (p2 - d2) (p3 - d3) l1 l2 l3 h1 h2 h3 = true := by
  obtain ⟨-, ⟨q1, q2, q3⟩, q4, q5, q6⟩ := bxH_iff.1 k
  refine meP_iff.2 ⟨3, 4, by decide, by decide, by decide, ?_, ?_, ?_⟩ <;> unfold btw <;> omega
/-- The way's point in a triangle's plane lies within the triangle's box. -/
theorem btw_hit {A B n0 n1 n2 a b p q r : Int} (e : n1 * p + n2 * q + n0 * r = B * a - A * b) (s : n0 + n1 + n2 = B - A) (h0 : 0 ≤ n0) (h1 : 0 ≤ n1) (h2 : 0 ≤ n2) : btw a b (min (min p q) r) (max (max p q) r) (-A) (B - A) := by
  generalize hl : min (min p q) r = l
  generalize hh : max (max p q) r = h
  have lp : l ≤ p ∧ l ≤ q ∧ l ≤ r := by omega
  have hp : p ≤ h ∧ q ≤ h ∧ r ≤ h := by omega
  clear hl hh
  have x1 := Int.mul_le_mul_of_nonneg_left lp.1 h1
  have x2 := Int.mul_le_mul_of_nonneg_left lp.2.1 h2
  have x3 := Int.mul_le_mul_of_nonneg_left lp.2.2 h0
  have y1 := Int.mul_le_mul_of_nonneg_left hp.1 h1
  have y2 := Int.mul_le_mul_of_nonneg_left hp.2.1 h2
  have y3 := Int.mul_le_mul_of_nonneg_left hp.2.2 h0
  have e1 : l * (B - A) = n1 * l + n2 * l + n0 * l := by rw [← s]; grind
  have e2 : h * (B - A) = n1 * h + n2 * h + n0 * h := by rw [← s]; grind
  have e3 : a * (B - A) + -A * (b - a) = B * a - A * b := by grind
  unfold btw
  omega
theorem meP_hit {a1 a2 a3 b1 b2 b3 p1 p2 p3 q1 q2 q3 r1 r2 r3 : Int} (h : htB a1 a2 a3 b1 b2 b3 p1 p2 p3 q1 q2 q3 r1 r2 r3 = true) :
    meP a1 a2 a3 b1 b2 b3 (min (min p1 q1) r1) (min (min p2 q2) r2) (min (min p3 q3) r3) (max (max p1 q1) r1) (max (max p2 q2) r2) (max (max p3 q3) r3) = true := by
  have s := vo_sum a1 a2 a3 b1 b2 b3 p1 p2 p3 q1 q2 q3 r1 r2 r3
  have e1 := vo_meet1 a1 a2 a3 b1 b2 b3 p1 p2 p3 q1 q2 q3 r1 r2 r3
  have e2 := vo_meet2 a1 a2 a3 b1 b2 b3 p1 p2 p3 q1 q2 q3 r1 r2 r3
  have e3 := vo_meet3 a1 a2 a3 b1 b2 b3 p1 p2 p3 q1 q2 q3 r1 r2 r3
  have k := (hitP_iff _ _ _ _ _).1 h
  generalize vo p1 p2 p3 q1 q2 q3 r1 r2 r3 a1 a2 a3 = A at *
  generalize vo p1 p2 p3 q1 q2 q3 r1 r2 r3 b1 b2 b3 = B at *
  generalize vo a1 a2 a3 b1 b2 b3 p1 p2 p3 q1 q2 q3 = n0 at *
  generalize vo a1 a2 a3 b1 b2 b3 q1 q2 q3 r1 r2 r3 = n1 at *
  generalize vo a1 a2 a3 b1 b2 b3 r1 r2 r3 p1 p2 p3 = n2 at *
  rcases k.1 with ⟨x, y⟩ | ⟨x, y⟩
  · have z : 0 ≤ n0 ∧ 0 ≤ n1 ∧ 0 ≤ n2 := by rcases k.2 with z | z <;> omega
    exact meP_iff.2 ⟨-A, B - A, by omega, by omega, by omega, btw_hit e1 s z.1 z.2.1 z.2.2, btw_hit e2 s z.1 z.2.1 z.2.2, btw_hit e3 s z.1 z.2.1 z.2.2⟩
  · have z : 0 ≤ -n0 ∧ 0 ≤ -n1 ∧ 0 ≤ -n2 := by rcases k.2 with z | z <;> omega
    have s' : -n0 + -n1 + -n2 = -B - -A := by omega
    exact meP_iff.2 ⟨- -A, -B - -A, by omega, by omega, by omega, btw_hit (A := -A) (B := -B) (by grind) s' z.1 z.2.1 z.2.2, btw_hit (A := -A) (B := -B) (by grind) s' z.1 z.2.1 z.2.2, btw_hit (A := -A) (B := -B) (by grind) s' z.1 z.2.1 z.2.2⟩
end Go.Proofs.Ytfghjfgdjlkooaa
