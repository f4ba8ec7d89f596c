/-
  Plain facts on small points: areas, normals, volumes. No program in sight.
-/
import Derived.Test.YtfghjfgdjlkooaaVcPl
import Derived.Test.YtfghjfgdjlkooaaFrPl
import Derived.IntWalk
namespace Go.Proofs.Ytfghjfgdjlkooaa

/-- A part from -m to m. -/
def SM (m n : Int) : Prop := -m ≤ n ∧ n ≤ m
instance (m n : Int) : Decidable (SM m n) := by unfold SM; infer_instance
def sB (m n : Int) : Bool := decide (SM m n)
def s2 (x y : Int) : Bool := sB 4096 x && sB 4096 y
def s3 (x y z : Int) : Bool := sB 16384 x && sB 16384 y && sB 16384 z
theorem sB_iff {m n : Int} : sB m n = true ↔ SM m n := by unfold sB; exact decide_eq_true_iff
theorem sB_not {m n : Int} : sB m n = false ↔ ¬ SM m n := by unfold sB; exact decide_eq_false_iff_not
theorem s2_iff {x y : Int} : s2 x y = true ↔ SM 4096 x ∧ SM 4096 y := by unfold s2; rw [Bool.and_eq_true, sB_iff, sB_iff]
theorem s3_iff {x y z : Int} : s3 x y z = true ↔ SM 16384 x ∧ SM 16384 y ∧ SM 16384 z := by unfold s3; rw [Bool.and_eq_true, Bool.and_eq_true, sB_iff, sB_iff, sB_iff, and_assoc]
/-- A row's points. -/
def aS2 (F : Nat → Nat → Int) (n : Nat) : Bool := allB (fun i => s2 (F i 0) (F i 1)) n
def aS3 (F : Nat → Nat → Int) (n : Nat) : Bool := allB (fun i => s3 (F i 0) (F i 1) (F i 2)) n
/-- A value where all are small. -/
def vF (t : Bool) (v : Int) : Int := if t = true then v else 0
theorem vF_yes (v : Int) : vF true v = v := rfl
theorem vF_no (v : Int) : vF false v = 0 := rfl
/-- Twice an area. -/
def ar (a b c d e f : Int) : Int := (c - a) * (f - b) - (d - b) * (e - a)
/-- Six times a volume. -/
def vo (a1 a2 a3 b1 b2 b3 c1 c2 c3 d1 d2 d3 : Int) : Int := ar a2 a3 b2 b3 c2 c3 * (d1 - a1) + ar a3 a1 b3 b1 c3 c1 * (d2 - a2) + ar a1 a2 b1 b2 c1 c2 * (d3 - a3)
theorem abs_prod {a b : Int} {m n : Nat} (ha : a.natAbs ≤ m) (hb : b.natAbs ≤ n) : (a * b).natAbs ≤ m * n := by
  rw [Int.natAbs_mul]; exact Nat.mul_le_mul ha hb
theorem ar_bd2 {a b c d e f : Int} (ha : SM 4096 a) (hb : SM 4096 b) (hc : SM 4096 c) (hd : SM 4096 d) (he : SM 4096 e) (hf : SM 4096 f) : -134217728 ≤ ar a b c d e f ∧ ar a b c d e f ≤ 134217728 := by
  unfold SM at *
  have p := abs_prod (a := c - a) (b := f - b) (m := 8192) (n := 8192) (by omega) (by omega)
  have q := abs_prod (a := d - b) (b := e - a) (m := 8192) (n := 8192) (by omega) (by omega)
  unfold ar
  omega
theorem ar_bd3 {a b c d e f : Int} (ha : SM 16384 a) (hb : SM 16384 b) (hc : SM 16384 c) (hd : SM 16384 d) (he : SM 16384 e) (hf : SM 16384 f) : -2147483648 ≤ ar a b c d e f ∧ ar a b c d e f ≤ 2147483648 := by
  unfold SM at *
  have p := abs_prod (a := c - a) (b := f - b) (m := 32768) (n := 32768) (by omega) (by omega)
  have q := abs_prod (a := d - b) (b := e - a) (m := 32768) (n := 32768) (by omega) (by omega)
  unfold ar
  omega
/-- A part of a normal, times a way. -/
theorem far_way {n x y : Int} (hn : -2147483648 ≤ n ∧ n ≤ 2147483648) (hx : SM 16384 x) (hy : SM 16384 y) : -70368744177664 ≤ n * (x - y) ∧ n * (x - y) ≤ 70368744177664 := by
  unfold SM at *
  have p := abs_prod (a := n) (b := x - y) (m := 2147483648) (n := 32768) (by omega) (by omega)
  omega
theorem vo_wraps {a1 a2 a3 b1 b2 b3 c1 c2 c3 d1 d2 d3 : Int} (ha : s3 a1 a2 a3 = true) (hb : s3 b1 b2 b3 = true) (hc : s3 c1 c2 c3 = true) (hd : s3 d1 d2 d3 = true) :
    (-70368744177664 ≤ ar a2 a3 b2 b3 c2 c3 * (d1 - a1) ∧ ar a2 a3 b2 b3 c2 c3 * (d1 - a1) ≤ 70368744177664) ∧ (-70368744177664 ≤ ar a3 a1 b3 b1 c3 c1 * (d2 - a2) ∧ ar a3 a1 b3 b1 c3 c1 * (d2 - a2) ≤ 70368744177664) ∧ (-70368744177664 ≤ ar a1 a2 b1 b2 c1 c2 * (d3 - a3) ∧ ar a1 a2 b1 b2 c1 c2 * (d3 - a3) ≤ 70368744177664) := by
  obtain ⟨h1, h2, h3⟩ := s3_iff.1 ha
  obtain ⟨i1, i2, i3⟩ := s3_iff.1 hb
  obtain ⟨j1, j2, j3⟩ := s3_iff.1 hc
  obtain ⟨k1, k2, k3⟩ := s3_iff.1 hd
  exact ⟨far_way (ar_bd3 h2 h3 i2 i3 j2 j3) k1 h1, far_way (ar_bd3 h3 h1 i3 i1 j3 j1) k2 h2, far_way (ar_bd3 h1 h2 i1 i2 j1 j2) k3 h3⟩
theorem vo_bd {a1 a2 a3 b1 b2 b3 c1 c2 c3 d1 d2 d3 : Int} (ha : s3 a1 a2 a3 = true) (hb : s3 b1 b2 b3 = true) (hc : s3 c1 c2 c3 = true) (hd : s3 d1 d2 d3 = true) :
    -211106232532992 ≤ vo a1 a2 a3 b1 b2 b3 c1 c2 c3 d1 d2 d3 ∧ vo a1 a2 a3 b1 b2 b3 c1 c2 c3 d1 d2 d3 ≤ 211106232532992 := by
  obtain ⟨p, q, r⟩ := vo_wraps ha hb hc hd
  unfold vo
  omega
/-- Small is near. -/
theorem near_s2 {m n : Int} (hm : m ≤ 1048576) (h : SM m n) : NR n := by unfold SM at h; unfold NR; omega
theorem near_d {m a b : Int} (hm : m ≤ 500000) (h : SM m a) (k : SM m b) : NR (a - b) := by unfold SM at h k; unfold NR; omega
theorem n2_of {x y : Int} (h : s2 x y = true) : n2 x y = true := by obtain ⟨a, b⟩ := s2_iff.1 h; exact n2_iff.2 ⟨near_s2 (by omega) a, near_s2 (by omega) b⟩
theorem n3_of {x y z : Int} (h : s3 x y z = true) : n3 x y z = true := by obtain ⟨a, b, c⟩ := s3_iff.1 h; exact n3_iff.2 ⟨near_s2 (by omega) a, near_s2 (by omega) b, near_s2 (by omega) c⟩
theorem n2_d {a b c d : Int} (h : s2 a b = true) (k : s2 c d = true) : n2 (c - a) (d - b) = true := by obtain ⟨p, q⟩ := s2_iff.1 h; obtain ⟨r, s⟩ := s2_iff.1 k; exact n2_iff.2 ⟨near_d (by omega) r p, near_d (by omega) s q⟩
theorem n3_d {a b c d e f : Int} (h : s3 a b c = true) (k : s3 d e f = true) : n3 (d - a) (e - b) (f - c) = true := by obtain ⟨p, q, r⟩ := s3_iff.1 h; obtain ⟨s, t, u⟩ := s3_iff.1 k; exact n3_iff.2 ⟨near_d (by omega) s p, near_d (by omega) t q, near_d (by omega) u r⟩
end Go.Proofs.Ytfghjfgdjlkooaa
