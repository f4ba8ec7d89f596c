/-
  Plain facts on fractions: how two of them stand. No program in sight.
-/
import Derived.Below
namespace Go.Proofs.Ytkheomaihhcokaa
/-- -1, 0 or 1. -/
def ordI (x y : Int) : Int := if x < y then -1 else if y < x then 1 else 0
theorem ordI_lt {x y : Int} (h : x < y) : ordI x y = -1 := if_pos h
theorem ordI_gt {x y : Int} (h : y < x) : ordI x y = 1 := by unfold ordI; rw [if_neg (by omega), if_pos h]
theorem ordI_eq {x y : Int} (h : x = y) : ordI x y = 0 := by unfold ordI; rw [if_neg (by omega), if_neg (by omega)]
theorem ordI_ways (x y : Int) : (x < y ∧ ordI x y = -1) ∨ (x = y ∧ ordI x y = 0) ∨ (y < x ∧ ordI x y = 1) := by
  rcases Int.lt_trichotomy x y with h | h | h
  · exact .inl ⟨h, ordI_lt h⟩
  · exact .inr (.inl ⟨h, ordI_eq h⟩)
  · exact .inr (.inr ⟨h, ordI_gt h⟩)
theorem ordI_bd (x y : Int) : -1 ≤ ordI x y ∧ ordI x y ≤ 1 := by
  rcases ordI_ways x y with ⟨_, h⟩ | ⟨_, h⟩ | ⟨_, h⟩ <;> omega
/-- A right fraction. -/
def FR (n d : Int) : Prop := 1 ≤ d ∧ d ≤ 1000000000000000000 ∧ -1000000000000000000 ≤ n ∧ n ≤ 1000000000000000000
instance (n d : Int) : Decidable (FR n d) := by unfold FR; infer_instance
def isF (n d : Int) : Bool := decide (FR n d)
def rkF (n d : Int) : Int := if FR n d then 1 else 0
/-- The first of three that is not 0. -/
def or3 (x y z : Int) : Int := if x ≠ 0 then x else if y ≠ 0 then y else z
theorem or3_1 {x : Int} (y z : Int) (h : x ≠ 0) : or3 x y z = x := if_pos h
theorem or3_2 {y : Int} (z : Int) (h : y ≠ 0) : or3 0 y z = y := by unfold or3; rw [if_neg (by omega), if_pos h]
theorem or3_3 (z : Int) : or3 0 0 z = z := by unfold or3; rw [if_neg (by omega), if_neg (by omega)]
/-- How two stand (P3.1). -/
def cmpF (an ad bn bd : Int) : Int := if FR an ad ∧ FR bn bd then ordI (an * bd) (bn * ad) else or3 (ordI (rkF an ad) (rkF bn bd)) (ordI an bn) (ordI ad bd)
theorem cmpF_right {an ad bn bd : Int} (h : FR an ad) (k : FR bn bd) : cmpF an ad bn bd = ordI (an * bd) (bn * ad) := if_pos ⟨h, k⟩
theorem cmpF_other {an ad bn bd : Int} (h : ¬ (FR an ad ∧ FR bn bd)) : cmpF an ad bn bd = or3 (ordI (rkF an ad) (rkF bn bd)) (ordI an bn) (ordI ad bd) := if_neg h
theorem rkF_yes {n d : Int} (h : FR n d) : rkF n d = 1 := if_pos h
theorem rkF_no {n d : Int} (h : ¬ FR n d) : rkF n d = 0 := if_neg h
/-- All ways in which two stand, told without ordI. -/
theorem cmpF_ways (an ad bn bd : Int) :
    (FR an ad ∧ FR bn bd ∧ ((an * bd < bn * ad ∧ cmpF an ad bn bd = -1) ∨ (an * bd = bn * ad ∧ cmpF an ad bn bd = 0) ∨ (bn * ad < an * bd ∧ cmpF an ad bn bd = 1)))
    ∨ (¬ FR an ad ∧ FR bn bd ∧ cmpF an ad bn bd = -1) ∨ (FR an ad ∧ ¬ FR bn bd ∧ cmpF an ad bn bd = 1)
    ∨ (¬ FR an ad ∧ ¬ FR bn bd ∧ (((an < bn ∨ (an = bn ∧ ad < bd)) ∧ cmpF an ad bn bd = -1) ∨ (an = bn ∧ ad = bd ∧ cmpF an ad bn bd = 0) ∨ ((bn < an ∨ (an = bn ∧ bd < ad)) ∧ cmpF an ad bn bd = 1))) := by
  by_cases h : FR an ad <;> by_cases k : FR bn bd
  · exact .inl ⟨h, k, by rw [cmpF_right h k]; exact ordI_ways _ _⟩
  · refine .inr (.inr (.inl ⟨h, k, ?_⟩))
    rw [cmpF_other (fun x => k x.2), rkF_yes h, rkF_no k]; exact or3_1 _ _ (by decide)
  · refine .inr (.inl ⟨h, k, ?_⟩)
    rw [cmpF_other (fun x => h x.1), rkF_no h, rkF_yes k]; exact or3_1 _ _ (by decide)
  · refine .inr (.inr (.inr ⟨h, k, ?_⟩))
    rw [cmpF_other (fun x => h x.1), rkF_no h, rkF_no k, ordI_eq rfl]
    rcases ordI_ways an bn with ⟨q, e⟩ | ⟨q, e⟩ | ⟨q, e⟩
    · rw [e, or3_2 _ (by decide)]; exact .inl ⟨.inl q, rfl⟩
    · rw [e, or3_3]
      rcases ordI_ways ad bd with ⟨r, e⟩ | ⟨r, e⟩ | ⟨r, e⟩
      · exact .inl ⟨.inr ⟨q, r⟩, e⟩
      · exact .inr (.inl ⟨q, r, e⟩)
      · exact .inr (.inr ⟨.inr ⟨q, r⟩, e⟩)
    · rw [e, or3_2 _ (by decide)]; exact .inr (.inr ⟨.inl q, rfl⟩)
theorem cmpF_bd (an ad bn bd : Int) : -1 ≤ cmpF an ad bn bd ∧ cmpF an ad bn bd ≤ 1 := by
  rcases cmpF_ways an ad bn bd with ⟨_, _, ⟨_, h⟩ | ⟨_, h⟩ | ⟨_, h⟩⟩ | ⟨_, _, h⟩ | ⟨_, _, h⟩ | ⟨_, _, ⟨_, h⟩ | ⟨_, _, h⟩ | ⟨_, h⟩⟩ <;> omega
theorem cmpF_self (n d : Int) : cmpF n d n d = 0 := by
  rcases cmpF_ways n d n d with ⟨_, _, ⟨k, h⟩ | ⟨_, h⟩ | ⟨k, h⟩⟩ | ⟨k, q, h⟩ | ⟨k, q, h⟩ | ⟨_, _, ⟨k, h⟩ | ⟨_, _, h⟩ | ⟨k, h⟩⟩
  all_goals first | exact h | (exfalso; omega) | exact absurd q k | exact absurd k q
theorem cmpF_both (an ad bn bd : Int) : cmpF an ad bn bd + cmpF bn bd an ad = 0 := by
  rcases cmpF_ways an ad bn bd with ⟨f, g, h⟩ | ⟨f, g, h⟩ | ⟨f, g, h⟩ | ⟨f, g, h⟩ <;> rcases cmpF_ways bn bd an ad with ⟨f', g', h'⟩ | ⟨f', g', h'⟩ | ⟨f', g', h'⟩ | ⟨f', g', h'⟩
  all_goals first | exact absurd f g' | exact absurd f' g | exact absurd g f' | exact absurd g' f | omega
/-- Crosswise: less and less is less. -/
theorem cross_trans {a b c p q r : Int} (hp : 0 < p) (hq : 0 < q) (hr : 0 < r) (h : a * q ≤ b * p) (k : b * r ≤ c * q) : a * r ≤ c * p ∧ (a * q < b * p ∨ b * r < c * q → a * r < c * p) := by
  have e1 : (a * r) * q = (a * q) * r := Int.mul_right_comm _ _ _
  have e2 : (b * p) * r = (b * r) * p := Int.mul_right_comm _ _ _
  have e3 : (c * q) * p = (c * p) * q := Int.mul_right_comm _ _ _
  have h1 := Int.mul_le_mul_of_nonneg_right h (Int.le_of_lt hr)
  have k1 := Int.mul_le_mul_of_nonneg_right k (Int.le_of_lt hp)
  refine ⟨Int.le_of_mul_le_mul_right (by omega : a * r * q ≤ c * p * q) hq, fun s => ?_⟩
  rcases s with s | s
  · have h2 := Int.mul_lt_mul_of_pos_right s hr
    exact Int.lt_of_mul_lt_mul_right (by omega : a * r * q < c * p * q) (Int.le_of_lt hq)
  · have h2 := Int.mul_lt_mul_of_pos_right s hp
    exact Int.lt_of_mul_lt_mul_right (by omega : a * r * q < c * p * q) (Int.le_of_lt hq)
theorem cmpF_trans (an ad bn bd cn cd : Int) (h : cmpF an ad bn bd ≤ 0) (k : cmpF bn bd cn cd ≤ 0) : cmpF an ad cn cd ≤ 0 ∧ (cmpF an ad bn bd < 0 ∨ cmpF bn bd cn cd < 0 → cmpF an ad cn cd < 0) := by
  rcases cmpF_ways an ad bn bd with ⟨f, g, x⟩ | ⟨f, g, x⟩ | ⟨f, g, x⟩ | ⟨f, g, x⟩ <;> rcases cmpF_ways bn bd cn cd with ⟨f', g', y⟩ | ⟨f', g', y⟩ | ⟨f', g', y⟩ | ⟨f', g', y⟩ <;> rcases cmpF_ways an ad cn cd with ⟨f'', g'', z⟩ | ⟨f'', g'', z⟩ | ⟨f'', g'', z⟩ | ⟨f'', g'', z⟩
  all_goals first
    | exact absurd f f'' | exact absurd f'' f | exact absurd g f' | exact absurd f' g | exact absurd g' g'' | exact absurd g'' g'
    | (have t := cross_trans (a := an) (b := bn) (c := cn) (show 0 < ad by have := f.1; omega) (show 0 < bd by have := g.1; omega) (show 0 < cd by have := g'.1; omega) (by omega) (by omega); obtain ⟨t1, t2⟩ := t; by_cases s : an * bd < bn * ad ∨ bn * cd < cn * bd; (have t3 := t2 s; omega); omega)
    | omega
end Go.Proofs.Ytkheomaihhcokaa
