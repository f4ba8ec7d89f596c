/-
  Texts in one: Base, VcPl, FrPl, SgPl, MtPl, WhPl, NrPl.
-/
import Derived.Test.YtllamakemgogaaaRows
import Derived.WalkKit
import Derived.WalkSpells
import Derived.WalkLawsBesides
import Derived.IntWalk
import Derived.BigQuiet
import Derived.Deep.QuietTactic
import Derived.Deep.RegionHeld3
import Derived.LoopTactic
import Derived.Deep.LoopGhost
import Derived.LoopN
import Derived.Below
import Derived.Lib.Hide
/-
  What all walks share: what a call leaves of the memory that was there; results.
-/
namespace Go.Proofs.Ytllamakemgogaaa
open Go.RowKit

theorem below_drewN {B : Nat} {a w : World} (h : Below B a w) (n : Nat) : Below B a (w.drewN n) := ⟨h.os, h.tape, h.output, h.size, h.block⟩
theorem ret_int {a b : Int} (h : a = b) : Ending.returned (.int .i64 a) = .returned (.int .i64 b) := by rw [h]
theorem ret_int2 {a b c d : Int} (h : a = b ∧ c = d) : Ending.returned (.tuple #[.int .i64 a, .int .i64 c]) = .returned (.tuple #[.int .i64 b, .int .i64 d]) := by rw [h.1, h.2]
/-- What a call that makes memory of its own leaves of the memory that was there. -/
theorem bcell {W w1 : World} (hb : Below W.heap.size W w1) : (∀ b o, b < W.heap.size → w1.cell? ⟨b, o, none⟩ = W.cell? ⟨b, o, none⟩) ∧ (∀ b o, b < W.heap.size → w1.frozen? ⟨b, o, none⟩ = W.frozen? ⟨b, o, none⟩) :=
  ⟨fun b o h => hb.cell (p := ⟨b, o, none⟩) h, fun b o h => hb.frozen (p := ⟨b, o, none⟩) h⟩

theorem cell_lt {w : World} {a : Addr} {v : Value} (h : w.cell? a = some v) : a.block < w.heap.size := by
  rcases Nat.lt_or_ge a.block w.heap.size with h' | h'
  · exact h'
  · simp [World.cell?, Array.getElem?_eq_none h'] at h

theorem keepc {W w1 : World} {a : Addr} {v : Value} (hb : Below W.heap.size W w1) (h : W.cell? a = some v) : w1.cell? a = some v := (hb.cell (cell_lt h)).trans h
theorem keepa {w : World} {a : Addr} {v : Value} {o : Obj} (h : w.cell? a = some v) : (w.alloc o).cell? a = some v := (Below.cell ((Below.refl w.heap.size w).alloc (Nat.le_refl _) o) (cell_lt h)).trans h

theorem keepf {W w1 : World} {b o : Nat} {v : Value} (hb : Below W.heap.size W w1) (h : W.frozen? ⟨b, o, none⟩ = false) (c : W.cell? ⟨b, 0, none⟩ = some v) : w1.frozen? ⟨b, o, none⟩ = false := (hb.frozen (p := ⟨b, o, none⟩) (show b < W.heap.size from cell_lt c)).trans h

theorem alloc_cell {W : World} {cs : Array Value} {T : TypeId} {g i : Nat} {v : Value} (hg : g = W.heap.size) (h : cs[i]? = some v) : (W.alloc (.cells cs T)).cell? ⟨g, i, none⟩ = some v := by
  subst hg; simp [h]
theorem alloc_frozen {W : World} {cs : Array Value} {T : TypeId} {g i : Nat} (hg : g = W.heap.size) : (W.alloc (.cells cs T)).frozen? ⟨g, i, none⟩ = false := by
  subst hg; simp
end Go.Proofs.Ytllamakemgogaaa
/-
  Plain facts on near points.
-/
namespace Go.Proofs.Ytllamakemgogaaa

/-- A part that is near. -/
def NR (n : Int) : Prop := -1048576 ≤ n ∧ n ≤ 1048576
instance (n : Int) : Decidable (NR n) := by unfold NR; infer_instance
def nB (n : Int) : Bool := decide (NR n)
def n2 (x y : Int) : Bool := nB x && nB y
def n3 (x y z : Int) : Bool := nB x && nB y && nB z
theorem nB_iff {n : Int} : nB n = true ↔ NR n := by unfold nB; exact decide_eq_true_iff
theorem nB_not {n : Int} : nB n = false ↔ ¬ NR n := by unfold nB; exact decide_eq_false_iff_not
theorem n2_iff {x y : Int} : n2 x y = true ↔ NR x ∧ NR y := by unfold n2; rw [Bool.and_eq_true, nB_iff, nB_iff]
theorem n3_iff {x y z : Int} : n3 x y z = true ↔ NR x ∧ NR y ∧ NR z := by unfold n3; rw [Bool.and_eq_true, Bool.and_eq_true, nB_iff, nB_iff, nB_iff, and_assoc]
/-- Do all of the first n? -/
def allB (P : Nat → Bool) : Nat → Bool
  | 0 => true
  | n + 1 => allB P n && P n
theorem allB_iff (P : Nat → Bool) (n : Nat) : allB P n = true ↔ ∀ i, i < n → P i = true := by
  induction n with
  | zero => exact ⟨fun _ i h => absurd h (Nat.not_lt_zero i), fun _ => rfl⟩
  | succ n ih =>
    show (allB P n && P n) = true ↔ _
    rw [Bool.and_eq_true, ih]
    constructor
    · rintro ⟨h, k⟩ i hi
      by_cases e : i = n
      · rw [e]; exact k
      · exact h i (by omega)
    · exact fun h => ⟨fun i hi => h i (by omega), h n (by omega)⟩
theorem allB_no {P : Nat → Bool} {n k : Nat} (hk : k < n) (h : P k = false) : allB P n = false := by
  cases e : allB P n with
  | false => rfl
  | true => rw [(allB_iff P n).1 e k hk] at h; cases h
theorem allB_yes {P : Nat → Bool} {n : Nat} (h : ∀ i, i < n → P i = true) : allB P n = true := (allB_iff P n).2 h
/-- A row's points. -/
def a2 (F : Nat → Nat → Int) (n : Nat) : Bool := allB (fun i => n2 (F i 0) (F i 1)) n
def a3 (F : Nat → Nat → Int) (n : Nat) : Bool := allB (fun i => n3 (F i 0) (F i 1) (F i 2)) n
/-- A row of points of k parts, out of its ints. -/
def rowOf (k : Nat) (l : List Int) (i j : Nat) : Int := l.getD (i * k + j) 0
/-- Products of parts that are near. -/
theorem near_prod {a b : Int} (ha : NR a) (hb : NR b) : -1099511627776 ≤ a * b ∧ a * b ≤ 1099511627776 := by
  unfold NR at ha hb
  have h := Nat.mul_le_mul (show a.natAbs ≤ 1048576 by omega) (show b.natAbs ≤ 1048576 by omega)
  rw [← Int.natAbs_mul] at h
  omega
end Go.Proofs.Ytllamakemgogaaa
/-
  Plain facts on fractions: how two of them stand. No program in sight.
-/
namespace Go.Proofs.Ytllamakemgogaaa
/-- -1, 0 or 1. -/
def ordI (x y : Int) : Int := if x < y then -1 else if y < x then 1 else 0
theorem ordI_lt {x y : Int} (h : x < y) : ordI x y = -1 := if_pos h
theorem ordI_gt {x y : Int} (h : y < x) : ordI x y = 1 := by unfold ordI; rw [if_neg (by omega), if_pos h]
theorem ordI_eq {x y : Int} (h : x = y) : ordI x y = 0 := by unfold ordI; rw [if_neg (by omega), if_neg (by omega)]
theorem ordI_ways (x y : Int) : (x < y ∧ ordI x y = -1) ∨ (x = y ∧ ordI x y = 0) ∨ (y < x ∧ ordI x y = 1) := by
  rcases Int.lt_trichotomy x y with h | h | h
  · exact .inl ⟨h, ordI_lt h⟩
  · exact .inr (.inl ⟨h, ordI_eq h⟩)
  · exact .inr (.inr ⟨h, ordI_gt h⟩)
theorem ordI_bd (x y : Int) : -1 ≤ ordI x y ∧ ordI x y ≤ 1 := by
  rcases ordI_ways x y with ⟨_, h⟩ | ⟨_, h⟩ | ⟨_, h⟩ <;> omega
/-- A right fraction. -/
def FR (n d : Int) : Prop := 1 ≤ d ∧ d ≤ 1000000000000000000 ∧ -1000000000000000000 ≤ n ∧ n ≤ 1000000000000000000
instance (n d : Int) : Decidable (FR n d) := by unfold FR; infer_instance
def isF (n d : Int) : Bool := decide (FR n d)
def rkF (n d : Int) : Int := if FR n d then 1 else 0
/-- The first of three that is not 0. -/
def or3 (x y z : Int) : Int := if x ≠ 0 then x else if y ≠ 0 then y else z
theorem or3_1 {x : Int} (y z : Int) (h : x ≠ 0) : or3 x y z = x := if_pos h
theorem or3_2 {y : Int} (z : Int) (h : y ≠ 0) : or3 0 y z = y := by unfold or3; rw [if_neg (by omega), if_pos h]
theorem or3_3 (z : Int) : or3 0 0 z = z := by unfold or3; rw [if_neg (by omega), if_neg (by omega)]
/-- How two stand (P3.1). -/
def cmpF (an ad bn bd : Int) : Int := if FR an ad ∧ FR bn bd then ordI (an * bd) (bn * ad) else or3 (ordI (rkF an ad) (rkF bn bd)) (ordI an bn) (ordI ad bd)
theorem cmpF_right {an ad bn bd : Int} (h : FR an ad) (k : FR bn bd) : cmpF an ad bn bd = ordI (an * bd) (bn * ad) := if_pos ⟨h, k⟩
theorem cmpF_other {an ad bn bd : Int} (h : ¬ (FR an ad ∧ FR bn bd)) : cmpF an ad bn bd = or3 (ordI (rkF an ad) (rkF bn bd)) (ordI an bn) (ordI ad bd) := if_neg h
theorem rkF_yes {n d : Int} (h : FR n d) : rkF n d = 1 := if_pos h
theorem rkF_no {n d : Int} (h : ¬ FR n d) : rkF n d = 0 := if_neg h
/-- All ways in which two stand, told without ordI. -/
theorem cmpF_ways (an ad bn bd : Int) :
    (FR an ad ∧ FR bn bd ∧ ((an * bd < bn * ad ∧ cmpF an ad bn bd = -1) ∨ (an * bd = bn * ad ∧ cmpF an ad bn bd = 0) ∨ (bn * ad < an * bd ∧ cmpF an ad bn bd = 1)))
    ∨ (¬ FR an ad ∧ FR bn bd ∧ cmpF an ad bn bd = -1) ∨ (FR an ad ∧ ¬ FR bn bd ∧ cmpF an ad bn bd = 1)
    ∨ (¬ FR an ad ∧ ¬ FR bn bd ∧ (((an < bn ∨ (an = bn ∧ ad < bd)) ∧ cmpF an ad bn bd = -1) ∨ (an = bn ∧ ad = bd ∧ cmpF an ad bn bd = 0) ∨ ((bn < an ∨ (an = bn ∧ bd < ad)) ∧ cmpF an ad bn bd = 1))) := by
  by_cases h : FR an ad <;> by_cases k : FR bn bd
  · exact .inl ⟨h, k, by rw [cmpF_right h k]; exact ordI_ways _ _⟩
  · refine .inr (.inr (.inl ⟨h, k, ?_⟩))
    rw [cmpF_other (fun x => k x.2), rkF_yes h, rkF_no k]; exact or3_1 _ _ (by decide)
  · refine .inr (.inl ⟨h, k, ?_⟩)
    rw [cmpF_other (fun x => h x.1), rkF_no h, rkF_yes k]; exact or3_1 _ _ (by decide)
  · refine .inr (.inr (.inr ⟨h, k, ?_⟩))
    rw [cmpF_other (fun x => h x.1), rkF_no h, rkF_no k, ordI_eq rfl]
    rcases ordI_ways an bn with ⟨q, e⟩ | ⟨q, e⟩ | ⟨q, e⟩
    · rw [e, or3_2 _ (by decide)]; exact .inl ⟨.inl q, rfl⟩
    · rw [e, or3_3]
      rcases ordI_ways ad bd with ⟨r, e⟩ | ⟨r, e⟩ | ⟨r, e⟩
      · exact .inl ⟨.inr ⟨q, r⟩, e⟩
      · exact .inr (.inl ⟨q, r, e⟩)
      · exact .inr (.inr ⟨.inr ⟨q, r⟩, e⟩)
    · rw [e, or3_2 _ (by decide)]; exact .inr (.inr ⟨.inl q, rfl⟩)
theorem cmpF_bd (an ad bn bd : Int) : -1 ≤ cmpF an ad bn bd ∧ cmpF an ad bn bd ≤ 1 := by
  rcases cmpF_ways an ad bn bd with ⟨_, _, ⟨_, h⟩ | ⟨_, h⟩ | ⟨_, h⟩⟩ | ⟨_, _, h⟩ | ⟨_, _, h⟩ | ⟨_, _, ⟨_, h⟩ | ⟨_, _, h⟩ | ⟨_, h⟩⟩ <;> omega
theorem cmpF_self (n d : Int) : cmpF n d n d = 0 := by
  rcases cmpF_ways n d n d with ⟨_, _, ⟨k, h⟩ | ⟨_, h⟩ | ⟨k, h⟩⟩ | ⟨k, q, h⟩ | ⟨k, q, h⟩ | ⟨_, _, ⟨k, h⟩ | ⟨_, _, h⟩ | ⟨k, h⟩⟩
  all_goals first | exact h | (exfalso; omega) | exact absurd q k | exact absurd k q
theorem cmpF_both (an ad bn bd : Int) : cmpF an ad bn bd + cmpF bn bd an ad = 0 := by
  rcases cmpF_ways an ad bn bd with ⟨f, g, h⟩ | ⟨f, g, h⟩ | ⟨f, g, h⟩ | ⟨f, g, h⟩ <;> rcases cmpF_ways bn bd an ad with ⟨f', g', h'⟩ | ⟨f', g', h'⟩ | ⟨f', g', h'⟩ | ⟨f', g', h'⟩
  all_goals first | exact absurd f g' | exact absurd f' g | exact absurd g f' | exact absurd g' f | omega
/-- Crosswise: less and less is less. -/
theorem cross_trans {a b c p q r : Int} (hp : 0 < p) (hq : 0 < q) (hr : 0 < r) (h : a * q ≤ b * p) (k : b * r ≤ c * q) : a * r ≤ c * p ∧ (a * q < b * p ∨ b * r < c * q → a * r < c * p) := by
  have e1 : (a * r) * q = (a * q) * r := Int.mul_right_comm _ _ _
  have e2 : (b * p) * r = (b * r) * p := Int.mul_right_comm _ _ _
  have e3 : (c * q) * p = (c * p) * q := Int.mul_right_comm _ _ _
  have h1 := Int.mul_le_mul_of_nonneg_right h (Int.le_of_lt hr)
  have k1 := Int.mul_le_mul_of_nonneg_right k (Int.le_of_lt hp)
  refine ⟨Int.le_of_mul_le_mul_right (by omega : a * r * q ≤ c * p * q) hq, fun s => ?_⟩
  rcases s with s | s
  · have h2 := Int.mul_lt_mul_of_pos_right s hr
    exact Int.lt_of_mul_lt_mul_right (by omega : a * r * q < c * p * q) (Int.le_of_lt hq)
  · have h2 := Int.mul_lt_mul_of_pos_right s hp
    exact Int.lt_of_mul_lt_mul_right (by omega : a * r * q < c * p * q) (Int.le_of_lt hq)
theorem cmpF_trans (an ad bn bd cn cd : Int) (h : cmpF an ad bn bd ≤ 0) (k : cmpF bn bd cn cd ≤ 0) : cmpF an ad cn cd ≤ 0 ∧ (cmpF an ad bn bd < 0 ∨ cmpF bn bd cn cd < 0 → cmpF an ad cn cd < 0) := by
  rcases cmpF_ways an ad bn bd with ⟨f, g, x⟩ | ⟨f, g, x⟩ | ⟨f, g, x⟩ | ⟨f, g, x⟩ <;> rcases cmpF_ways bn bd cn cd with ⟨f', g', y⟩ | ⟨f', g', y⟩ | ⟨f', g', y⟩ | ⟨f', g', y⟩ <;> rcases cmpF_ways an ad cn cd with ⟨f'', g'', z⟩ | ⟨f'', g'', z⟩ | ⟨f'', g'', z⟩ | ⟨f'', g'', z⟩
  all_goals first
    | exact absurd f f'' | exact absurd f'' f | exact absurd g f' | exact absurd f' g | exact absurd g' g'' | exact absurd g'' g'
    | (have t := cross_trans (a := an) (b := bn) (c := cn) (show 0 < ad by have := f.1; omega) (show 0 < bd by have := g.1; omega) (show 0 < cd by have := g'.1; omega) (by omega) (by omega); obtain ⟨t1, t2⟩ := t; by_cases s : an * bd < bn * ad ∨ bn * cd < cn * bd; (have t3 := t2 s; omega); omega)
    | omega
end Go.Proofs.Ytllamakemgogaaa
/-
  Plain facts on small points: areas, normals, volumes. No program in sight.
-/
namespace Go.Proofs.Ytllamakemgogaaa

/-- A part from -m to m. -/
def SM (m n : Int) : Prop := -m ≤ n ∧ n ≤ m
instance (m n : Int) : Decidable (SM m n) := by unfold SM; infer_instance
def sB (m n : Int) : Bool := decide (SM m n)
def s2 (x y : Int) : Bool := sB 4096 x && sB 4096 y
def s3 (x y z : Int) : Bool := sB 16384 x && sB 16384 y && sB 16384 z
theorem sB_iff {m n : Int} : sB m n = true ↔ SM m n := by unfold sB; exact decide_eq_true_iff
theorem sB_not {m n : Int} : sB m n = false ↔ ¬ SM m n := by unfold sB; exact decide_eq_false_iff_not
theorem s2_iff {x y : Int} : s2 x y = true ↔ SM 4096 x ∧ SM 4096 y := by unfold s2; rw [Bool.and_eq_true, sB_iff, sB_iff]
theorem s3_iff {x y z : Int} : s3 x y z = true ↔ SM 16384 x ∧ SM 16384 y ∧ SM 16384 z := by unfold s3; rw [Bool.and_eq_true, Bool.and_eq_true, sB_iff, sB_iff, sB_iff, and_assoc]
/-- A row's points. -/
def aS2 (F : Nat → Nat → Int) (n : Nat) : Bool := allB (fun i => s2 (F i 0) (F i 1)) n
def aS3 (F : Nat → Nat → Int) (n : Nat) : Bool := allB (fun i => s3 (F i 0) (F i 1) (F i 2)) n
/-- A value where all are small. -/
def vF (t : Bool) (v : Int) : Int := if t = true then v else 0
theorem vF_yes (v : Int) : vF true v = v := rfl
theorem vF_no (v : Int) : vF false v = 0 := rfl
/-- Twice an area. -/
def ar (a b c d e f : Int) : Int := (c - a) * (f - b) - (d - b) * (e - a)
/-- Six times a volume. -/
def vo (a1 a2 a3 b1 b2 b3 c1 c2 c3 d1 d2 d3 : Int) : Int := ar a2 a3 b2 b3 c2 c3 * (d1 - a1) + ar a3 a1 b3 b1 c3 c1 * (d2 - a2) + ar a1 a2 b1 b2 c1 c2 * (d3 - a3)
theorem abs_prod {a b : Int} {m n : Nat} (ha : a.natAbs ≤ m) (hb : b.natAbs ≤ n) : (a * b).natAbs ≤ m * n := by
  rw [Int.natAbs_mul]; exact Nat.mul_le_mul ha hb
theorem ar_bd2 {a b c d e f : Int} (ha : SM 4096 a) (hb : SM 4096 b) (hc : SM 4096 c) (hd : SM 4096 d) (he : SM 4096 e) (hf : SM 4096 f) : -134217728 ≤ ar a b c d e f ∧ ar a b c d e f ≤ 134217728 := by
  unfold SM at *
  have p := abs_prod (a := c - a) (b := f - b) (m := 8192) (n := 8192) (by omega) (by omega)
  have q := abs_prod (a := d - b) (b := e - a) (m := 8192) (n := 8192) (by omega) (by omega)
  unfold ar
  omega
theorem ar_bd3 {a b c d e f : Int} (ha : SM 16384 a) (hb : SM 16384 b) (hc : SM 16384 c) (hd : SM 16384 d) (he : SM 16384 e) (hf : SM 16384 f) : -2147483648 ≤ ar a b c d e f ∧ ar a b c d e f ≤ 2147483648 := by
  unfold SM at *
  have p := abs_prod (a := c - a) (b := f - b) (m := 32768) (n := 32768) (by omega) (by omega)
  have q := abs_prod (a := d - b) (b := e - a) (m := 32768) (n := 32768) (by omega) (by omega)
  unfold ar
  omega
/-- A part of a normal, times a way. -/
theorem far_way {n x y : Int} (hn : -2147483648 ≤ n ∧ n ≤ 2147483648) (hx : SM 16384 x) (hy : SM 16384 y) : -70368744177664 ≤ n * (x - y) ∧ n * (x - y) ≤ 70368744177664 := by
  unfold SM at *
  have p := abs_prod (a := n) (b := x - y) (m := 2147483648) (n := 32768) (by omega) (by omega)
  omega
theorem vo_wraps {a1 a2 a3 b1 b2 b3 c1 c2 c3 d1 d2 d3 : Int} (ha : s3 a1 a2 a3 = true) (hb : s3 b1 b2 b3 = true) (hc : s3 c1 c2 c3 = true) (hd : s3 d1 d2 d3 = true) :
    (-70368744177664 ≤ ar a2 a3 b2 b3 c2 c3 * (d1 - a1) ∧ ar a2 a3 b2 b3 c2 c3 * (d1 - a1) ≤ 70368744177664) ∧ (-70368744177664 ≤ ar a3 a1 b3 b1 c3 c1 * (d2 - a2) ∧ ar a3 a1 b3 b1 c3 c1 * (d2 - a2) ≤ 70368744177664) ∧ (-70368744177664 ≤ ar a1 a2 b1 b2 c1 c2 * (d3 - a3) ∧ ar a1 a2 b1 b2 c1 c2 * (d3 - a3) ≤ 70368744177664) := by
  obtain ⟨h1, h2, h3⟩ := s3_iff.1 ha
  obtain ⟨i1, i2, i3⟩ := s3_iff.1 hb
  obtain ⟨j1, j2, j3⟩ := s3_iff.1 hc
  obtain ⟨k1, k2, k3⟩ := s3_iff.1 hd
  exact ⟨far_way (ar_bd3 h2 h3 i2 i3 j2 j3) k1 h1, far_way (ar_bd3 h3 h1 i3 i1 j3 j1) k2 h2, far_way (ar_bd3 h1 h2 i1 i2 j1 j2) k3 h3⟩
theorem vo_bd {a1 a2 a3 b1 b2 b3 c1 c2 c3 d1 d2 d3 : Int} (ha : s3 a1 a2 a3 = true) (hb : s3 b1 b2 b3 = true) (hc : s3 c1 c2 c3 = true) (hd : s3 d1 d2 d3 = true) :
    -211106232532992 ≤ vo a1 a2 a3 b1 b2 b3 c1 c2 c3 d1 d2 d3 ∧ vo a1 a2 a3 b1 b2 b3 c1 c2 c3 d1 d2 d3 ≤ 211106232532992 := by
  obtain ⟨p, q, r⟩ := vo_wraps ha hb hc hd
  unfold vo
  omega
/-- Small is near. -/
theorem near_s2 {m n : Int} (hm : m ≤ 1048576) (h : SM m n) : NR n := by unfold SM at h; unfold NR; omega
theorem near_d {m a b : Int} (hm : m ≤ 500000) (h : SM m a) (k : SM m b) : NR (a - b) := by unfold SM at h k; unfold NR; omega
theorem n2_of {x y : Int} (h : s2 x y = true) : n2 x y = true := by obtain ⟨a, b⟩ := s2_iff.1 h; exact n2_iff.2 ⟨near_s2 (by omega) a, near_s2 (by omega) b⟩
theorem n3_of {x y z : Int} (h : s3 x y z = true) : n3 x y z = true := by obtain ⟨a, b, c⟩ := s3_iff.1 h; exact n3_iff.2 ⟨near_s2 (by omega) a, near_s2 (by omega) b, near_s2 (by omega) c⟩
theorem n2_d {a b c d : Int} (h : s2 a b = true) (k : s2 c d = true) : n2 (c - a) (d - b) = true := by obtain ⟨p, q⟩ := s2_iff.1 h; obtain ⟨r, s⟩ := s2_iff.1 k; exact n2_iff.2 ⟨near_d (by omega) r p, near_d (by omega) s q⟩
theorem n3_d {a b c d e f : Int} (h : s3 a b c = true) (k : s3 d e f = true) : n3 (d - a) (e - b) (f - c) = true := by obtain ⟨p, q, r⟩ := s3_iff.1 h; obtain ⟨s, t, u⟩ := s3_iff.1 k; exact n3_iff.2 ⟨near_d (by omega) s p, near_d (by omega) t q, near_d (by omega) u r⟩
end Go.Proofs.Ytllamakemgogaaa
/-
  Plain facts on triangles in a plane: sides, how far corners reach. No program in sight.
-/
namespace Go.Proofs.Ytllamakemgogaaa

/-- On which side of the edge from f to t a point p is, as seen from the third point h: 1 the inner one. -/
def eS (f1 f2 t1 t2 h1 h2 p1 p2 : Int) : Int := ordI (ar f1 f2 t1 t2 p1 p2) 0 * ordI (ar f1 f2 t1 t2 h1 h2) 0
theorem ord_bd (a b : Int) : -1 ≤ ordI a b ∧ ordI a b ≤ 1 := by
  rcases ordI_ways a b with ⟨_, e⟩ | ⟨_, e⟩ | ⟨_, e⟩ <;> rw [e] <;> omega
theorem unit_mul {a b : Int} (h : -1 ≤ a ∧ a ≤ 1) (k : -1 ≤ b ∧ b ≤ 1) : -1 ≤ a * b ∧ a * b ≤ 1 := by
  rcases (show a = -1 ∨ a = 0 ∨ a = 1 by omega) with rfl | rfl | rfl <;> simp <;> omega
theorem eS_bd (f1 f2 t1 t2 h1 h2 p1 p2 : Int) : -1 ≤ eS f1 f2 t1 t2 h1 h2 p1 p2 ∧ eS f1 f2 t1 t2 h1 h2 p1 p2 ≤ 1 := unit_mul (ord_bd _ _) (ord_bd _ _)
/-- The greatest of the first n, -1 at least. -/
def mx (s : Nat → Int) : Nat → Int
  | 0 => -1
  | k + 1 => max (mx s k) (s k)
theorem mx_bd {s : Nat → Int} (h : ∀ i, -1 ≤ s i ∧ s i ≤ 1) : ∀ n, -1 ≤ mx s n ∧ mx s n ≤ 1
  | 0 => by simp [mx]
  | n + 1 => by have := mx_bd h n; have := h n; unfold mx; omega
/-- A triangle is right: its points are small and it has an area. -/
def rT (a1 a2 b1 b2 c1 c2 : Int) : Bool := (s2 a1 a2 && s2 b1 b2 && s2 c1 c2) && (ar a1 a2 b1 b2 c1 c2 != 0)
theorem rT_iff {a1 a2 b1 b2 c1 c2 : Int} : rT a1 a2 b1 b2 c1 c2 = true ↔ s2 a1 a2 = true ∧ s2 b1 b2 = true ∧ s2 c1 c2 = true ∧ ar a1 a2 b1 b2 c1 c2 ≠ 0 := by
  unfold rT; simp [Bool.and_eq_true, and_assoc]
/-- How far corners reach into a triangle: the least side that its edges find. -/
def rc (a1 a2 b1 b2 c1 c2 : Int) (F : Nat → Nat → Int) (n : Nat) : Int :=
  min (min (min 1 (mx (fun i => eS a1 a2 b1 b2 c1 c2 (F i 0) (F i 1)) n)) (mx (fun i => eS b1 b2 c1 c2 a1 a2 (F i 0) (F i 1)) n)) (mx (fun i => eS c1 c2 a1 a2 b1 b2 (F i 0) (F i 1)) n)
end Go.Proofs.Ytllamakemgogaaa
/-
  Plain facts on whole numbers for package whole: quotients, roots, divisors. No program in sight.
-/
namespace Go.Proofs.Ytllamakemgogaaa
/-- Floor's quotient, and what is left, as the program reckons them: Go's own division goes towards 0. -/
def adj (a b : Int) : Prop := a.tmod b ≠ 0 ∧ ¬ ((a.tmod b < 0) ↔ (b < 0))
instance (a b : Int) : Decidable (adj a b) := by unfold adj; infer_instance
def flQ (a b : Int) : Int := if adj a b then a.tdiv b - 1 else a.tdiv b
def flR (a b : Int) : Int := if adj a b then a.tmod b + b else a.tmod b
def clQ (a b : Int) : Int := if flR a b = 0 then flQ a b else flQ a b + 1
theorem fl_adj {a b : Int} (h : adj a b) : flQ a b = a.tdiv b - 1 ∧ flR a b = a.tmod b + b := by unfold flQ flR; rw [if_pos h, if_pos h]; exact ⟨rfl, rfl⟩
theorem fl_same {a b : Int} (h : ¬ adj a b) : flQ a b = a.tdiv b ∧ flR a b = a.tmod b := by unfold flQ flR; rw [if_neg h, if_neg h]; exact ⟨rfl, rfl⟩

theorem tm_bd (a b : Int) (hb : b ≠ 0) : (0 < b → -b < a.tmod b ∧ a.tmod b < b) ∧ (b < 0 → b < a.tmod b ∧ a.tmod b < -b) := by
  have h : (a.tmod b).natAbs < b.natAbs := by
    rw [Int.natAbs_tmod]; exact Nat.mod_lt _ (by omega)
  omega
theorem td_bd (a b : Int) (hb : b ≠ 0) (h0 : -9223372036854775808 ≤ a) (h1 : a ≤ 9223372036854775807) (hn : ¬ (a = -9223372036854775808 ∧ b = -1)) :
    -9223372036854775808 ≤ a.tdiv b ∧ a.tdiv b ≤ 9223372036854775807 ∧ (a.tmod b ≠ 0 → -4611686018427387905 ≤ a.tdiv b ∧ a.tdiv b ≤ 4611686018427387905) := by
  have e := Int.mul_tdiv_add_tmod a b
  by_cases k1 : b = 1
  · subst k1; simp at e ⊢; omega
  by_cases k2 : b = -1
  · subst k2; simp at e ⊢; omega
  have h : (a.tdiv b).natAbs = a.natAbs / b.natAbs := Int.natAbs_tdiv a b
  have h2 : a.natAbs / b.natAbs ≤ a.natAbs / 2 := Nat.div_le_div_left (by omega) (by omega)
  omega

/-- What P2.1 says of them. -/
theorem fl_spec (a b : Int) (hb : b ≠ 0) : b * flQ a b + flR a b = a ∧ (0 < b → 0 ≤ flR a b ∧ flR a b < b) ∧ (b < 0 → b < flR a b ∧ flR a b ≤ 0) := by
  have e := Int.mul_tdiv_add_tmod a b
  have t := tm_bd a b hb
  by_cases h : adj a b
  · obtain ⟨q, r⟩ := fl_adj h
    rw [q, r, Int.mul_sub]
    unfold adj at h
    omega
  · obtain ⟨q, r⟩ := fl_same h
    rw [q, r]
    unfold adj at h
    omega
theorem fl_bd (a b : Int) (hb : b ≠ 0) (h0 : -9223372036854775808 ≤ a) (h1 : a ≤ 9223372036854775807) (hb0 : -9223372036854775808 ≤ b) (hb1 : b ≤ 9223372036854775807) (hn : ¬ (a = -9223372036854775808 ∧ b = -1)) :
    -9223372036854775808 ≤ flQ a b ∧ flQ a b ≤ 9223372036854775807 ∧ -9223372036854775808 ≤ flR a b ∧ flR a b ≤ 9223372036854775807 ∧ (flR a b ≠ 0 → flQ a b < 9223372036854775807) := by
  have t := tm_bd a b hb
  have d := td_bd a b hb h0 h1 hn
  by_cases h : adj a b
  · obtain ⟨q, r⟩ := fl_adj h
    rw [q, r]
    unfold adj at h
    omega
  · obtain ⟨q, r⟩ := fl_same h
    rw [q, r]
    unfold adj at h
    omega
/-- The reference's way to Ceil. -/
theorem cl_up {a b : Int} (h : a.tmod b ≠ 0) (s : (a.tmod b < 0) ↔ (b < 0)) : clQ a b = a.tdiv b + 1 := by
  obtain ⟨q, r⟩ := fl_same (a := a) (b := b) (by unfold adj; exact fun k => k.2 s)
  unfold clQ; rw [q, r, if_neg h]
theorem cl_no {a b : Int} (hb : b ≠ 0) (h : a.tmod b = 0 ∨ ¬ ((a.tmod b < 0) ↔ (b < 0))) : clQ a b = a.tdiv b := by
  have t := tm_bd a b hb
  by_cases h0 : a.tmod b = 0
  · obtain ⟨q, r⟩ := fl_same (a := a) (b := b) (by unfold adj; exact fun k => k.1 h0)
    unfold clQ; rw [q, r, if_pos h0]
  · have k : adj a b := ⟨h0, by rcases h with h | h; exact absurd h h0; exact h⟩
    obtain ⟨q, r⟩ := fl_adj k
    unfold adj at k
    unfold clQ; rw [q, r, if_neg (by omega)]; omega

/-! Roots. -/
def IsRt (n : Int) (r : Nat) : Prop := r ≤ 3037000499 ∧ (r : Int) * r ≤ n ∧ (r < 3037000499 → n < ((r : Int) + 1) * (r + 1))
theorem sq_le {a b : Nat} (h : a ≤ b) : (a : Int) * a ≤ (b : Int) * b := by
  have := Nat.mul_le_mul h h; exact_mod_cast this
theorem exists_rt (n : Int) (h0 : 0 ≤ n) : ∃ r, IsRt n r := by
  have : ∀ k : Nat, ∃ r : Nat, r ≤ k ∧ (r : Int) * r ≤ n ∧ (r < k → n < ((r : Int) + 1) * (r + 1)) := by
    intro k
    induction k with
    | zero => exact ⟨0, Nat.le_refl _, by simpa using h0, by omega⟩
    | succ k ih =>
      obtain ⟨r, h1, h2, h3⟩ := ih
      by_cases hr : r < k
      · exact ⟨r, by omega, h2, fun _ => h3 hr⟩
      · obtain rfl : r = k := by omega
        by_cases hs : ((r : Int) + 1) * (r + 1) ≤ n
        · exact ⟨r + 1, Nat.le_refl _, by simpa using hs, by omega⟩
        · exact ⟨r, by omega, h2, fun _ => by omega⟩
  exact this 3037000499
theorem rt_unique {n : Int} {r s : Nat} (h : IsRt n r) (k : IsRt n s) : r = s := by
  obtain ⟨h1, h2, h3⟩ := h
  obtain ⟨k1, k2, k3⟩ := k
  rcases Nat.lt_trichotomy r s with c | c | c
  · have a := h3 (by omega)
    have b := sq_le (show r + 1 ≤ s from c)
    push_cast at b
    omega
  · exact c
  · have a := k3 (by omega)
    have b := sq_le (show s + 1 ≤ r from c)
    push_cast at b
    omega
theorem rt_sq (r : Nat) (h : r ≤ 3037000499) : IsRt ((r : Int) * r) r := by
  refine ⟨h, Int.le_refl _, fun _ => ?_⟩
  have : ((r : Int) + 1) * (r + 1) = (r : Int) * r + 2 * r + 1 := by rw [Int.add_mul, Int.mul_add]; omega
  omega
theorem sq_max (r : Nat) (h : r ≤ 3037000499) : (r : Int) * r ≤ 9223372030926249001 := by
  have := sq_le h
  simpa using this
def bt : Nat → Int
  | 0 => 0
  | k + 1 => 2 ^ k
theorem bt_half (k : Nat) : bt (k + 1) / 2 = bt k := by
  match k with
  | 0 => rfl
  | k + 1 => show (2 : Int) ^ (k + 1) / 2 = 2 ^ k; rw [Int.pow_succ]; omega

/-! Divisors. -/
def gcdL : List Int → Nat
  | [] => 0
  | x :: l => Nat.gcd x.natAbs (gcdL l)
def gcdF (g : Nat) : List Int → Nat
  | [] => g
  | x :: l => gcdF (Nat.gcd g x.natAbs) l
theorem gcdF_eq (l : List Int) : ∀ g, gcdF g l = Nat.gcd g (gcdL l) := by
  induction l with
  | nil => intro g; simp [gcdF, gcdL]
  | cons x l ih => intro g; simp only [gcdF, gcdL]; rw [ih, Nat.gcd_assoc]
theorem gcdF_snoc (l : List Int) (x : Int) : ∀ g, gcdF g (l ++ [x]) = Nat.gcd (gcdF g l) x.natAbs := by
  induction l with
  | nil => intro g; rfl
  | cons y l ih => intro g; exact ih _
theorem gcdL_dvd (l : List Int) : ∀ x ∈ l, gcdL l ∣ x.natAbs := by
  induction l with
  | nil => intro x h; cases h
  | cons y l ih =>
    intro x h
    rcases List.mem_cons.1 h with rfl | h
    · exact Nat.gcd_dvd_left _ _
    · exact Nat.dvd_trans (Nat.gcd_dvd_right _ _) (ih x h)
theorem dvd_gcdL (d : Nat) (l : List Int) : (∀ x ∈ l, d ∣ x.natAbs) → d ∣ gcdL l := by
  induction l with
  | nil => intro _; exact Nat.dvd_zero _
  | cons y l ih => intro h; exact Nat.dvd_gcd (h y (List.mem_cons_self ..)) (ih fun x hx => h x (List.mem_cons_of_mem _ hx))
theorem gcdL_append (l m : List Int) : gcdL (l ++ m) = Nat.gcd (gcdL l) (gcdL m) := by
  induction l with
  | nil => simp [gcdL]
  | cons x l ih => simp only [List.cons_append, gcdL]; rw [ih, Nat.gcd_assoc]
theorem gcdL_reverse (l : List Int) : gcdL l.reverse = gcdL l := by
  induction l with
  | nil => rfl
  | cons x l ih => rw [List.reverse_cons, gcdL_append, ih]; simp only [gcdL, Nat.gcd_zero_right]; exact Nat.gcd_comm _ _
theorem gcdL_zero {l : List Int} (h : gcdL l = 0) : ∀ x ∈ l, x = 0 := by
  intro x hx
  have := gcdL_dvd l x hx
  rw [h] at this
  have := Nat.eq_zero_of_zero_dvd this
  omega
theorem gcdL_div (g : Nat) (l : List Int) : (∀ x ∈ l, g ∣ x.natAbs) → gcdL (l.map fun x => x.tdiv g) = gcdL l / g := by
  induction l with
  | nil => intro _; simp [gcdL]
  | cons x l ih =>
    intro h
    simp only [List.map_cons, gcdL]
    rw [ih fun y hy => h y (List.mem_cons_of_mem _ hy), Int.natAbs_tdiv]
    have e : (g : Int).natAbs = g := Int.natAbs_natCast g
    rw [e]
    exact Nat.gcd_div (h x (List.mem_cons_self ..)) (dvd_gcdL g l fun y hy => h y (List.mem_cons_of_mem _ hy))
theorem gcdL_bd (l : List Int) (B : Nat) (h : ∀ x ∈ l, x.natAbs ≤ B) : gcdL l ≤ B := by
  induction l with
  | nil => exact Nat.zero_le _
  | cons x l ih =>
    have a := h x (List.mem_cons_self ..)
    have b := ih fun y hy => h y (List.mem_cons_of_mem _ hy)
    simp only [gcdL]
    rcases Nat.eq_zero_or_pos x.natAbs with hx | hx
    · rw [hx, Nat.gcd_zero_left]; exact b
    · exact Nat.le_trans (Nat.gcd_le_left _ hx) a
theorem tmod_dvd (x : Int) (g : Nat) : (x.tmod g = 0) ↔ g ∣ x.natAbs := by
  have e : (x.tmod g).natAbs = x.natAbs % g := by rw [Int.natAbs_tmod, Int.natAbs_natCast]
  rw [Nat.dvd_iff_mod_eq_zero]
  omega
end Go.Proofs.Ytllamakemgogaaa
/-
  Plain facts on edges and the points of them that are closest: feet, squares. No program in sight.
-/
namespace Go.Proofs.Ytllamakemgogaaa

/-- The way along an edge from a to b, of a point p; the square of a way. -/
def em (x y a1 a2 b1 b2 : Int) : Int := (x - a1) * (b1 - a1) + (y - a2) * (b2 - a2)
def sq (a1 a2 b1 b2 : Int) : Int := (b1 - a1) * (b1 - a1) + (b2 - a2) * (b2 - a2)
/-- Which of three a foot is. -/
def eK (m n : Int) : Int := if m ≤ 0 then 0 else if n ≤ m then 1 else 2
def w3 (k p q r : Int) : Int := if k = 0 then p else if k = 1 then q else r
theorem w3_0 (p q r : Int) : w3 0 p q r = p := rfl
theorem w3_1 (p q r : Int) : w3 1 p q r = q := rfl
theorem w3_2 (p q r : Int) : w3 2 p q r = r := rfl
def fK (x y a1 a2 b1 b2 : Int) : Int := eK (em x y a1 a2 b1 b2) (sq a1 a2 b1 b2)
def fX (x y a1 a2 b1 b2 : Int) : Int := w3 (fK x y a1 a2 b1 b2) a1 b1 (a1 + (b1 - a1) * em x y a1 a2 b1 b2 / sq a1 a2 b1 b2)
def fY (x y a1 a2 b1 b2 : Int) : Int := w3 (fK x y a1 a2 b1 b2) a2 b2 (a2 + (b2 - a2) * em x y a1 a2 b1 b2 / sq a1 a2 b1 b2)
def fN (x y a1 a2 b1 b2 : Int) : Int := w3 (fK x y a1 a2 b1 b2) (sq x y a1 a2) (sq x y b1 b2) (ar a1 a2 b1 b2 x y * ar a1 a2 b1 b2 x y)
def fD (x y a1 a2 b1 b2 : Int) : Int := w3 (fK x y a1 a2 b1 b2) 1 1 (sq a1 a2 b1 b2)
theorem eK_ways (m n : Int) : (m ≤ 0 ∧ eK m n = 0) ∨ (0 < m ∧ n ≤ m ∧ eK m n = 1) ∨ (0 < m ∧ m < n ∧ eK m n = 2) := by
  unfold eK
  by_cases h : m ≤ 0
  · rw [if_pos h]; exact .inl ⟨h, rfl⟩
  · rw [if_neg h]
    by_cases k : n ≤ m
    · rw [if_pos k]; exact .inr (.inl ⟨by omega, k, rfl⟩)
    · rw [if_neg k]; exact .inr (.inr ⟨by omega, by omega, rfl⟩)
theorem sq_nn (x : Int) : 0 ≤ x * x := by
  rcases Int.le_total 0 x with h | h
  · exact Int.mul_nonneg h h
  · have := Int.mul_nonneg (show 0 ≤ -x by omega) (show 0 ≤ -x by omega); rwa [Int.neg_mul_neg] at this
theorem sq_nn2 (a1 a2 b1 b2 : Int) : 0 ≤ sq a1 a2 b1 b2 := by
  have := sq_nn (b1 - a1); have := sq_nn (b2 - a2); unfold sq; omega
theorem sq_sym (a1 a2 b1 b2 : Int) : sq b1 b2 a1 a2 = sq a1 a2 b1 b2 := by unfold sq; grind
theorem em_rev (x y a1 a2 b1 b2 : Int) : em x y b1 b2 a1 a2 = sq a1 a2 b1 b2 - em x y a1 a2 b1 b2 := by unfold sq em; grind
theorem sq_zero2 {a1 a2 b1 b2 : Int} (h : sq a1 a2 b1 b2 = 0) : a1 = b1 ∧ a2 = b2 := by
  have p := sq_nn (b1 - a1); have q := sq_nn (b2 - a2); unfold sq at h
  have z1 : (b1 - a1) * (b1 - a1) = 0 := by omega
  have z2 : (b2 - a2) * (b2 - a2) = 0 := by omega
  have u1 := (Int.mul_eq_zero.1 z1)
  have u2 := (Int.mul_eq_zero.1 z2)
  omega
/-- Crosswise and along: the two parts of a way. -/
theorem lag (x y a1 a2 b1 b2 : Int) : sq a1 a2 b1 b2 * sq x y a1 a2 = ar a1 a2 b1 b2 x y * ar a1 a2 b1 b2 x y + em x y a1 a2 b1 b2 * em x y a1 a2 b1 b2 := by unfold sq em ar; grind

/-- How far p is, times t = u + v, from u times a and v times b: the square of it. -/
def gw (x y a1 a2 b1 b2 u v : Int) : Int := ((u + v) * x - (u * a1 + v * b1)) * ((u + v) * x - (u * a1 + v * b1)) + ((u + v) * y - (u * a2 + v * b2)) * ((u + v) * y - (u * a2 + v * b2))
theorem gw_a (x y a1 a2 b1 b2 u v : Int) : gw x y a1 a2 b1 b2 u v = (u + v) * (u + v) * sq x y a1 a2 - 2 * ((u + v) * v * em x y a1 a2 b1 b2) + v * v * sq a1 a2 b1 b2 := by unfold gw sq em; grind
theorem gw_b (x y a1 a2 b1 b2 u v : Int) : gw x y a1 a2 b1 b2 u v = (u + v) * (u + v) * sq x y b1 b2 + 2 * ((u + v) * u * (em x y a1 a2 b1 b2 - sq a1 a2 b1 b2)) + u * u * sq a1 a2 b1 b2 := by unfold gw sq em; grind
theorem gw_c (x y a1 a2 b1 b2 u v : Int) : sq a1 a2 b1 b2 * gw x y a1 a2 b1 b2 u v = ar a1 a2 b1 b2 x y * ar a1 a2 b1 b2 x y * ((u + v) * (u + v)) + ((u + v) * em x y a1 a2 b1 b2 - v * sq a1 a2 b1 b2) * ((u + v) * em x y a1 a2 b1 b2 - v * sq a1 a2 b1 b2) := by
  have h := lag x y a1 a2 b1 b2
  rw [gw_a]
  generalize sq x y a1 a2 = s at *
  generalize sq a1 a2 b1 b2 = n at *
  generalize em x y a1 a2 b1 b2 = m at *
  generalize ar a1 a2 b1 b2 x y = r at *
  grind
/-- No point of the edge is nearer than its foot. -/
theorem edge_least {x y a1 a2 b1 b2 u v : Int} (hu : 0 ≤ u) (hv : 0 ≤ v) : fN x y a1 a2 b1 b2 * ((u + v) * (u + v)) ≤ fD x y a1 a2 b1 b2 * gw x y a1 a2 b1 b2 u v := by
  have hn := sq_nn2 a1 a2 b1 b2
  have ht : 0 ≤ u + v := by omega
  unfold fN fD fK
  rcases eK_ways (em x y a1 a2 b1 b2) (sq a1 a2 b1 b2) with ⟨h, e⟩ | ⟨h, k, e⟩ | ⟨h, k, e⟩ <;> rw [e]
  · rw [w3_0, w3_0, gw_a, Int.one_mul, Int.mul_comm (sq x y a1 a2)]
    have q := Int.mul_nonneg (Int.mul_nonneg ht hv) (show 0 ≤ -em x y a1 a2 b1 b2 by omega)
    rw [Int.mul_neg] at q
    have q2 := Int.mul_nonneg (sq_nn v) hn
    omega
  · rw [w3_1, w3_1, gw_b, Int.one_mul, Int.mul_comm (sq x y b1 b2)]
    have q := Int.mul_nonneg (Int.mul_nonneg ht hu) (show 0 ≤ em x y a1 a2 b1 b2 - sq a1 a2 b1 b2 by omega)
    have q2 := Int.mul_nonneg (sq_nn u) hn
    omega
  · rw [w3_2, w3_2, gw_c]
    have q := sq_nn ((u + v) * em x y a1 a2 b1 b2 - v * sq a1 a2 b1 b2)
    omega
theorem edge_a (x y a1 a2 b1 b2 : Int) : fN x y a1 a2 b1 b2 ≤ fD x y a1 a2 b1 b2 * sq x y a1 a2 := by
  have h := edge_least (x := x) (y := y) (a1 := a1) (a2 := a2) (b1 := b1) (b2 := b2) (u := 1) (v := 0) (by omega) (by omega)
  rw [show gw x y a1 a2 b1 b2 1 0 = sq x y a1 a2 from by unfold gw sq; grind] at h
  simpa using h
theorem edge_b (x y a1 a2 b1 b2 : Int) : fN x y a1 a2 b1 b2 ≤ fD x y a1 a2 b1 b2 * sq x y b1 b2 := by
  have h := edge_least (x := x) (y := y) (a1 := a1) (a2 := a2) (b1 := b1) (b2 := b2) (u := 0) (v := 1) (by omega) (by omega)
  rw [show gw x y a1 a2 b1 b2 0 1 = sq x y b1 b2 from by unfold gw sq; grind] at h
  simpa using h

/-- Sizes. -/
theorem prod_bd {a b : Int} (ha : -8192 ≤ a ∧ a ≤ 8192) (hb : -8192 ≤ b ∧ b ≤ 8192) : -67108864 ≤ a * b ∧ a * b ≤ 67108864 := by
  have p := abs_prod (a := a) (b := b) (m := 8192) (n := 8192) (by omega) (by omega)
  omega
theorem em_bd {x y a1 a2 b1 b2 : Int} (hp : s2 x y = true) (ha : s2 a1 a2 = true) (hb : s2 b1 b2 = true) : -134217728 ≤ em x y a1 a2 b1 b2 ∧ em x y a1 a2 b1 b2 ≤ 134217728 := by
  obtain ⟨h1, h2⟩ := s2_iff.1 hp
  obtain ⟨i1, i2⟩ := s2_iff.1 ha
  obtain ⟨j1, j2⟩ := s2_iff.1 hb
  unfold SM at *
  have p := prod_bd (a := x - a1) (b := b1 - a1) (by omega) (by omega)
  have q := prod_bd (a := y - a2) (b := b2 - a2) (by omega) (by omega)
  unfold em; omega
theorem sq_bd {a1 a2 b1 b2 : Int} (ha : s2 a1 a2 = true) (hb : s2 b1 b2 = true) : 0 ≤ sq a1 a2 b1 b2 ∧ sq a1 a2 b1 b2 ≤ 134217728 := by
  refine ⟨sq_nn2 _ _ _ _, ?_⟩
  obtain ⟨i1, i2⟩ := s2_iff.1 ha
  obtain ⟨j1, j2⟩ := s2_iff.1 hb
  unfold SM at *
  have p := prod_bd (a := b1 - a1) (b := b1 - a1) (by omega) (by omega)
  have q := prod_bd (a := b2 - a2) (b := b2 - a2) (by omega) (by omega)
  unfold sq; omega
theorem ar_s2 {a1 a2 b1 b2 c1 c2 : Int} (ha : s2 a1 a2 = true) (hb : s2 b1 b2 = true) (hc : s2 c1 c2 = true) : -134217728 ≤ ar a1 a2 b1 b2 c1 c2 ∧ ar a1 a2 b1 b2 c1 c2 ≤ 134217728 := by
  obtain ⟨h1, h2⟩ := s2_iff.1 ha
  obtain ⟨i1, i2⟩ := s2_iff.1 hb
  obtain ⟨j1, j2⟩ := s2_iff.1 hc
  exact ar_bd2 h1 h2 i1 i2 j1 j2
theorem ar_sq_bd {a1 a2 b1 b2 c1 c2 : Int} (ha : s2 a1 a2 = true) (hb : s2 b1 b2 = true) (hc : s2 c1 c2 = true) : 0 ≤ ar a1 a2 b1 b2 c1 c2 * ar a1 a2 b1 b2 c1 c2 ∧ ar a1 a2 b1 b2 c1 c2 * ar a1 a2 b1 b2 c1 c2 ≤ 18014398509481984 := by
  have h := ar_s2 ha hb hc
  have p := abs_prod (a := ar a1 a2 b1 b2 c1 c2) (b := ar a1 a2 b1 b2 c1 c2) (m := 134217728) (n := 134217728) (by omega) (by omega)
  exact ⟨sq_nn _, by omega⟩
theorem edge_fr {x y a1 a2 b1 b2 : Int} (hp : s2 x y = true) (ha : s2 a1 a2 = true) (hb : s2 b1 b2 = true) : FR (fN x y a1 a2 b1 b2) (fD x y a1 a2 b1 b2) ∧ 0 ≤ fN x y a1 a2 b1 b2 := by
  have n := sq_bd ha hb
  have p := sq_bd hp ha
  have q := sq_bd hp hb
  have r := ar_sq_bd ha hb hp
  unfold fN fD fK FR
  rcases eK_ways (em x y a1 a2 b1 b2) (sq a1 a2 b1 b2) with ⟨h, e⟩ | ⟨h, k, e⟩ | ⟨h, k, e⟩ <;> rw [e]
  · simp only [w3_0]; omega
  · simp only [w3_1]; omega
  · simp only [w3_2]; omega
theorem fr_one {n : Int} (h : 0 ≤ n ∧ n ≤ 134217728) : FR n 1 := by unfold FR; omega
theorem cmp_le {n d m : Int} (h : FR n d) (k : FR m 1) (l : n ≤ d * m) : cmpF n d m 1 ≤ 0 := by
  rw [cmpF_right h k, Int.mul_one, Int.mul_comm m]
  rcases ordI_ways n (d * m) with ⟨_, e⟩ | ⟨_, e⟩ | ⟨q, _⟩
  · omega
  · omega
  · omega
theorem edge_cmp_a {x y a1 a2 b1 b2 : Int} (hp : s2 x y = true) (ha : s2 a1 a2 = true) (hb : s2 b1 b2 = true) : cmpF (fN x y a1 a2 b1 b2) (fD x y a1 a2 b1 b2) (sq x y a1 a2) 1 ≤ 0 := cmp_le (edge_fr hp ha hb).1 (fr_one (sq_bd hp ha)) (edge_a x y a1 a2 b1 b2)
theorem edge_cmp_b {x y a1 a2 b1 b2 : Int} (hp : s2 x y = true) (ha : s2 a1 a2 = true) (hb : s2 b1 b2 = true) : cmpF (fN x y a1 a2 b1 b2) (fD x y a1 a2 b1 b2) (sq x y b1 b2) 1 ≤ 0 := cmp_le (edge_fr hp ha hb).1 (fr_one (sq_bd hp hb)) (edge_b x y a1 a2 b1 b2)
/-- Told from the other end an edge is as far. -/
theorem edge_rev (x y a1 a2 b1 b2 : Int) : fN x y b1 b2 a1 a2 = fN x y a1 a2 b1 b2 ∧ fD x y b1 b2 a1 a2 = fD x y a1 a2 b1 b2 ∧ (fK x y b1 b2 a1 a2 == 2) = (fK x y a1 a2 b1 b2 == 2) := by
  have hn := sq_nn2 a1 a2 b1 b2
  have hz := sq_zero2 (a1 := a1) (a2 := a2) (b1 := b1) (b2 := b2)
  have hs : ar b1 b2 a1 a2 x y * ar b1 b2 a1 a2 x y = ar a1 a2 b1 b2 x y * ar a1 a2 b1 b2 x y := by unfold ar; grind
  unfold fN fD fK
  rw [em_rev x y a1 a2 b1 b2, sq_sym a1 a2 b1 b2, hs]
  rcases eK_ways (em x y a1 a2 b1 b2) (sq a1 a2 b1 b2) with ⟨h, e⟩ | ⟨h, k, e⟩ | ⟨h, k, e⟩ <;> rcases eK_ways (sq a1 a2 b1 b2 - em x y a1 a2 b1 b2) (sq a1 a2 b1 b2) with ⟨h', e'⟩ | ⟨h', k', e'⟩ | ⟨h', k', e'⟩ <;> rw [e, e']
  · obtain ⟨z1, z2⟩ := hz (by omega)
    rw [z1, z2]; exact ⟨rfl, rfl, rfl⟩
  · exact ⟨rfl, rfl, rfl⟩
  · omega
  · exact ⟨rfl, rfl, rfl⟩
  · omega
  · omega
  · omega
  · omega
  · exact ⟨rfl, rfl, rfl⟩
theorem div_between {z lo hi n : Int} (hn : 0 < n) (h : lo * n ≤ z) (k : z ≤ hi * n) : lo ≤ z / n ∧ z / n ≤ hi :=
  ⟨(Int.le_ediv_iff_mul_le hn).2 h, Int.ediv_le_of_le_mul hn k⟩
/-- A part of a foot lies between those of the ends. -/
theorem part_box {a b m n : Int} (h : 0 < m) (k : m < n) : min a b ≤ a + (b - a) * m / n ∧ a + (b - a) * m / n ≤ max a b := by
  have hn : 0 < n := by omega
  rcases Int.le_total a b with u | u
  · have q1 := Int.mul_nonneg (show 0 ≤ b - a by omega) (show 0 ≤ m by omega)
    have q2 := Int.mul_le_mul_of_nonneg_left (show m ≤ n by omega) (show 0 ≤ b - a by omega)
    have := div_between (z := (b - a) * m) (lo := 0) (hi := b - a) hn (by omega) q2
    omega
  · have q1 := Int.mul_nonneg (show 0 ≤ a - b by omega) (show 0 ≤ m by omega)
    have q2 := Int.mul_le_mul_of_nonneg_left (show m ≤ n by omega) (show 0 ≤ a - b by omega)
    have e1 : (b - a) * m = -((a - b) * m) := by rw [← Int.neg_mul]; congr 1; omega
    have e2 : (b - a) * n = -((a - b) * n) := by rw [← Int.neg_mul]; congr 1; omega
    have := div_between (z := (b - a) * m) (lo := b - a) (hi := 0) hn (by omega) (by omega)
    omega
theorem foot_box (x y a1 a2 b1 b2 : Int) : (min a1 b1 ≤ fX x y a1 a2 b1 b2 ∧ fX x y a1 a2 b1 b2 ≤ max a1 b1) ∧ (min a2 b2 ≤ fY x y a1 a2 b1 b2 ∧ fY x y a1 a2 b1 b2 ≤ max a2 b2) := by
  unfold fX fY fK
  rcases eK_ways (em x y a1 a2 b1 b2) (sq a1 a2 b1 b2) with ⟨h, e⟩ | ⟨h, k, e⟩ | ⟨h, k, e⟩ <;> rw [e]
  · simp only [w3_0]; omega
  · simp only [w3_1]; omega
  · simp only [w3_2]; exact ⟨part_box h k, part_box h k⟩
theorem fK_ways (x y a1 a2 b1 b2 : Int) : (fK x y a1 a2 b1 b2 = 0 ∧ fX x y a1 a2 b1 b2 = a1 ∧ fY x y a1 a2 b1 b2 = a2 ∧ fN x y a1 a2 b1 b2 = sq x y a1 a2 ∧ fD x y a1 a2 b1 b2 = 1) ∨ (fK x y a1 a2 b1 b2 = 1 ∧ fX x y a1 a2 b1 b2 = b1 ∧ fY x y a1 a2 b1 b2 = b2 ∧ fD x y a1 a2 b1 b2 = 1) ∨ fK x y a1 a2 b1 b2 = 2 := by
  unfold fX fY fN fD
  rcases eK_ways (em x y a1 a2 b1 b2) (sq a1 a2 b1 b2) with ⟨h, e⟩ | ⟨h, k, e⟩ | ⟨h, k, e⟩ <;> rw [show fK x y a1 a2 b1 b2 = _ from e]
  · exact .inl ⟨rfl, rfl, rfl, rfl, rfl⟩
  · exact .inr (.inl ⟨rfl, rfl, rfl, rfl⟩)
  · exact .inr (.inr rfl)
/-- The lesser of two, by how they stand. -/
def l2 (c p q : Int) : Int := if c < 0 then q else p
theorem l2_yes {c : Int} (p q : Int) (h : c < 0) : l2 c p q = q := if_pos h
theorem l2_no {c : Int} (p q : Int) (h : ¬ c < 0) : l2 c p q = p := if_neg h
theorem l2_least (n d m e : Int) : cmpF (l2 (cmpF m e n d) n m) (l2 (cmpF m e n d) d e) n d ≤ 0 ∧ cmpF (l2 (cmpF m e n d) n m) (l2 (cmpF m e n d) d e) m e ≤ 0 := by
  by_cases h : cmpF m e n d < 0
  · rw [l2_yes _ _ h, l2_yes _ _ h, cmpF_self]; omega
  · rw [l2_no _ _ h, l2_no _ _ h, cmpF_self]
    have := cmpF_both m e n d; omega
/-- The least of three. -/
theorem l3_least (n0 d0 n1 d1 n2 d2 n d : Int)
    (hn : n = l2 (cmpF n2 d2 (l2 (cmpF n1 d1 n0 d0) n0 n1) (l2 (cmpF n1 d1 n0 d0) d0 d1)) (l2 (cmpF n1 d1 n0 d0) n0 n1) n2)
    (hd : d = l2 (cmpF n2 d2 (l2 (cmpF n1 d1 n0 d0) n0 n1) (l2 (cmpF n1 d1 n0 d0) d0 d1)) (l2 (cmpF n1 d1 n0 d0) d0 d1) d2) : cmpF n d n0 d0 ≤ 0 ∧ cmpF n d n1 d1 ≤ 0 ∧ cmpF n d n2 d2 ≤ 0 := by
  have p := l2_least n0 d0 n1 d1
  have q := l2_least (l2 (cmpF n1 d1 n0 d0) n0 n1) (l2 (cmpF n1 d1 n0 d0) d0 d1) n2 d2
  rw [← hn, ← hd] at q
  exact ⟨(cmpF_trans _ _ _ _ _ _ q.1 p.1).1, (cmpF_trans _ _ _ _ _ _ q.1 p.2).1, q.2⟩
end Go.Proofs.Ytllamakemgogaaa
