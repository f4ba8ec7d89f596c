/-
  The reference's numbers: Sum of any two.
-/
import Derived.Test.YtehfmapbodjppaaDoorRefG
namespace Go.Proofs.YtehfmapbodjppaaDoor
open Go.RowKit
open Go.BigFrame

/-- Numbers of few digits. -/
def Small (N : Int) : Prop := (N.natAbs : Int) < p10 100
theorem num_small {D : Nat → Int} {n : Nat} {N : Int} (hd : Dg D n) (ht : n = 0 ∨ D (n - 1) ≠ 0) (hv : vs D 0 n = N.natAbs) (h : Small N) : n ≤ 100 := num_len hd ht (by rw [hv]; exact h)
theorem side {N : Int} {V : Int} {s : Bool} (hs : s = decide (N < 0)) (hv : V = N.natAbs) : N = if s then -V else V := by
  subst hs hv
  by_cases h0 : N < 0
  · rw [if_pos (decide_eq_true h0)]; omega
  · rw [if_neg (by simp [h0])]; omega
theorem sum_any {w : World} {va vb : Value} {A B : Int} (ha : NumV w va A) (hb : NumV w vb B) (sa : Small A) (sb : Small B) : Calls Tryd.prog 24 #[va, vb] w (RetNum (A + B) w) := by
  obtain ⟨a, n, c, D, rfl, ra, hc, da, ta, ea⟩ := ha
  obtain ⟨b, m, d, E, rfl, rb, hd, db, tb, eb⟩ := hb
  have hn := num_small da ta ea sa
  have hm := num_small db tb eb sb
  have fa := side (N := A) rfl ea
  have fb := side (N := B) rfl eb
  generalize decide (A < 0) = s at *
  generalize decide (B < 0) = t at *
  cases s <;> cases t
  · have := sum_same false a b n m c d D E w ra rb (by omega) (by omega) da db
    simp only [Bool.false_eq_true, if_false] at this fa fb
    rw [fa, fb]; exact this
  · have := sum_plus_minus a b n m c d D E w ra rb (by omega) (by omega) da db
    simp only [Bool.false_eq_true, if_false, if_true] at fa fb
    rw [fa, fb, ← Int.sub_eq_add_neg]; exact this
  · have := sum_minus_plus a b n m c d D E w ra rb (by omega) (by omega) da db
    simp only [Bool.false_eq_true, if_false, if_true] at fa fb
    rw [fa, fb, show -(vs D 0 n) + vs E 0 m = vs E 0 m - vs D 0 n from by omega]; exact this
  · have := sum_same true a b n m c d D E w ra rb (by omega) (by omega) da db
    simp only [if_true] at this fa fb
    rw [fa, fb, show -(vs D 0 n) + -(vs E 0 m) = -(vs D 0 n + vs E 0 m) from by omega]; exact this
end Go.Proofs.YtehfmapbodjppaaDoor
