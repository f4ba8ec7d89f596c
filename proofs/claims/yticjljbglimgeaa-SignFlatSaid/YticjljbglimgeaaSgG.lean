/-
  The law SignFlat, out of its walk. (gen/SgG.py)
-/
import Derived.Test.YticjljbglimgeaaSgF
namespace Go.Proofs.Yticjljbglimgeaa
open Go.RowKit

theorem vo_swap (a1 a2 a3 b1 b2 b3 c1 c2 c3 d1 d2 d3 : Int) : vo a1 a2 a3 b1 b2 b3 d1 d2 d3 c1 c2 c3 = -vo a1 a2 a3 b1 b2 b3 c1 c2 c3 d1 d2 d3 := by unfold vo ar; grind
theorem vo_ab (a1 a2 a3 c1 c2 c3 d1 d2 d3 : Int) : vo a1 a2 a3 a1 a2 a3 c1 c2 c3 d1 d2 d3 = 0 := by unfold vo ar; grind
theorem vo_bc (a1 a2 a3 b1 b2 b3 d1 d2 d3 : Int) : vo a1 a2 a3 b1 b2 b3 b1 b2 b3 d1 d2 d3 = 0 := by unfold vo ar; grind
theorem vo_cd (a1 a2 a3 b1 b2 b3 c1 c2 c3 : Int) : vo a1 a2 a3 b1 b2 b3 c1 c2 c3 c1 c2 c3 = 0 := by unfold vo ar; grind
theorem vo_ad (a1 a2 a3 b1 b2 b3 c1 c2 c3 : Int) : vo a1 a2 a3 b1 b2 b3 c1 c2 c3 a1 a2 a3 = 0 := by unfold vo ar; grind
theorem q3_no' {a b c d e f : Int} (h : ¬ (a = d ∧ b = e ∧ c = f)) : q3 a b c d e f = false := q3_not h
theorem vF_zero {t : Bool} {v : Int} (h : vF t v ≠ 0) : v ≠ 0 := by cases t with | false => exact absurd rfl h | true => exact h
theorem flat_ways (a1 a2 a3 b1 b2 b3 c1 c2 c3 d1 d2 d3 : Int) (t : Bool) : vF t (vo a1 a2 a3 b1 b2 b3 c1 c2 c3 d1 d2 d3) = 0 ∨ (vF t (vo a1 a2 a3 b1 b2 b3 c1 c2 c3 d1 d2 d3) ≠ 0 ∧ q3 a1 a2 a3 b1 b2 b3 = false ∧ q3 b1 b2 b3 c1 c2 c3 = false ∧ q3 c1 c2 c3 d1 d2 d3 = false ∧ q3 a1 a2 a3 d1 d2 d3 = false) := by
  by_cases h : vF t (vo a1 a2 a3 b1 b2 b3 c1 c2 c3 d1 d2 d3) = 0
  · exact .inl h
  · have k := vF_zero h
    refine .inr ⟨h, q3_not ?_, q3_not ?_, q3_not ?_, q3_not ?_⟩
    · rintro ⟨rfl, rfl, rfl⟩; exact k (vo_ab _ _ _ _ _ _ _ _ _)
    · rintro ⟨rfl, rfl, rfl⟩; exact k (vo_bc _ _ _ _ _ _ _ _ _)
    · rintro ⟨rfl, rfl, rfl⟩; exact k (vo_cd _ _ _ _ _ _ _ _ _)
    · rintro ⟨rfl, rfl, rfl⟩; exact k (vo_ad _ _ _ _ _ _ _ _ _)
/-- A normal's part that is farthest from 0, on its side. -/
theorem face_facts (n1 n2 n3 : Int) (i1 : -2147483648 ≤ n1 ∧ n1 ≤ 2147483648) (i2 : -2147483648 ≤ n2 ∧ n2 ≤ 2147483648) (i3 : -2147483648 ≤ n3 ∧ n3 ≤ 2147483648) (hz : q3 n1 n2 n3 0 0 0 = false) (m : Nat)
    (hmost : ∀ i, i < 3 → bl (pt n1 n2 n3 m) ≤ bl (pt n1 n2 n3 i)) (sd : Int) (hs : sd = ordI (pt n1 n2 n3 m) 0) :
    (sd = 1 ∨ sd = -1) ∧ IntKind.i64.wrap (pt n1 n2 n3 m * sd) = pt n1 n2 n3 m * sd ∧ 0 < pt n1 n2 n3 m * sd ∧ ∀ k, k < 3 → pt n1 n2 n3 k ≤ pt n1 n2 n3 m * sd ∧ -pt n1 n2 n3 k ≤ pt n1 n2 n3 m * sd ∧ IntKind.i64.wrap (-pt n1 n2 n3 k) = -pt n1 n2 n3 k := by
  have bd : ∀ k, -2147483648 ≤ pt n1 n2 n3 k ∧ pt n1 n2 n3 k ≤ 2147483648 := fun k => by
    unfold pt; split
    · exact i1
    · split
      · exact i2
      · exact i3
  have nz : pt n1 n2 n3 m ≠ 0 := fun e => by
    have z : ∀ i, i < 3 → pt n1 n2 n3 i = 0 := fun i hi => by
      have := hmost i hi
      unfold bl at this
      omega
    have z0 : n1 = 0 := z 0 (by omega)
    have z1 : n2 = 0 := z 1 (by omega)
    have z2 : n3 = 0 := z 2 (by omega)
    rw [z0, z1, z2] at hz
    cases hz
  have b := bd m
  have Y : pt n1 n2 n3 m * sd = (pt n1 n2 n3 m).natAbs ∧ (sd = 1 ∨ sd = -1) := by
    rcases ordI_ways (pt n1 n2 n3 m) 0 with ⟨h, e⟩ | ⟨h, e⟩ | ⟨h, e⟩
    · rw [hs, e]; exact ⟨by omega, .inr rfl⟩
    · exact absurd h nz
    · rw [hs, e]; exact ⟨by omega, .inl rfl⟩
  rw [Y.1]
  refine ⟨Y.2, IntWalk.i64_in _ (by omega), by omega, fun k hk => ?_⟩
  have h := hmost k hk
  have c := bd k
  unfold bl at h
  exact ⟨by omega, by omega, IntWalk.i64_in _ (by omega)⟩
theorem law_flat (a1 a2 a3 b1 b2 b3 c1 c2 c3 d1 d2 d3 : Int) (w : World) :
    Calls Try.prog 7 #[.agg #[.int .i64 a1, .int .i64 a2, .int .i64 a3], .agg #[.int .i64 b1, .int .i64 b2, .int .i64 b3], .agg #[.int .i64 c1, .int .i64 c2, .int .i64 c3], .agg #[.int .i64 d1, .int .i64 d2, .int .i64 d3]] w fun e' w' => e' = .returned (.bool true) ∧ Below w.heap.size w w' := by
  have V1 := fun W => volume_any a1 a2 a3 b1 b2 b3 c1 c2 c3 d1 d2 d3 (s3 a1 a2 a3 && s3 b1 b2 b3 && s3 c1 c2 c3 && s3 d1 d2 d3) rfl W
  have V2 := fun W => volume_any a1 a2 a3 b1 b2 b3 d1 d2 d3 c1 c2 c3 (s3 a1 a2 a3 && s3 b1 b2 b3 && s3 c1 c2 c3 && s3 d1 d2 d3) (by cases s3 a1 a2 a3 <;> cases s3 b1 b2 b3 <;> cases s3 c1 c2 c3 <;> cases s3 d1 d2 d3 <;> rfl) W
  rw [vo_swap, vF_neg] at V2
  have hv := flat_ways a1 a2 a3 b1 b2 b3 c1 c2 c3 d1 d2 d3 (s3 a1 a2 a3 && s3 b1 b2 b3 && s3 c1 c2 c3 && s3 d1 d2 d3)
  cases h3 : (s3 a1 a2 a3 && s3 b1 b2 b3 && s3 c1 c2 c3) with
  | false => exact law_flat_none a1 a2 a3 b1 b2 b3 c1 c2 c3 d1 d2 d3 _ _ _ _ _ _ _ _ _ w (Lib.hid V1) (Lib.hid V2) hv (Lib.hid fun W => normal_any _ _ _ _ _ _ _ _ _ false h3 W) (Lib.hid fun W => facing_any _ _ _ _ _ _ _ _ _ false h3 W) rfl rfl rfl rfl
  | true =>
    have N1 := fun W => normal_any a1 a2 a3 b1 b2 b3 c1 c2 c3 true h3 W
    have F1 := fun W => facing_any a1 a2 a3 b1 b2 b3 c1 c2 c3 true h3 W
    rw [vF_yes, vF_yes, vF_yes, show rE true = 0 from rfl] at N1
    rw [Bool.and_eq_true, Bool.and_eq_true, s3_iff, s3_iff, s3_iff] at h3
    obtain ⟨⟨⟨k1, k2, k3⟩, l1, l2, l3⟩, m1, m2, m3⟩ := h3
    have i1 := ar_bd3 k2 k3 l2 l3 m2 m3
    have i2 := ar_bd3 k3 k1 l3 l1 m3 m1
    have i3 := ar_bd3 k1 k2 l1 l2 m1 m2
    generalize ar a2 a3 b2 b3 c2 c3 = n1 at *
    generalize ar a3 a1 b3 b1 c3 c1 = n2 at *
    generalize ar a1 a2 b1 b2 c1 c2 = n3 at *
    cases hz : q3 n1 n2 n3 0 0 0 with
    | true =>
      rw [show fcA true n1 n2 n3 = 0 from if_neg (by rw [hz]; simp), show fcS true n1 n2 n3 = 0 from if_neg (by rw [hz]; simp), show fcE true n1 n2 n3 = 3 from by unfold fcE; rw [hz]; rfl] at F1
      exact law_flat_zero a1 a2 a3 b1 b2 b3 c1 c2 c3 d1 d2 d3 _ _ n1 n2 n3 _ _ _ _ w (Lib.hid V1) (Lib.hid V2) hv (Lib.hid N1) (Lib.hid F1) rfl rfl rfl rfl hz
    | false =>
      rw [show fcA true n1 n2 n3 = (axF n1 n2 n3 3 : Int) from if_pos ⟨rfl, hz⟩, show fcS true n1 n2 n3 = ordI (pt n1 n2 n3 (axF n1 n2 n3 3)) 0 from if_pos ⟨rfl, hz⟩, show fcE true n1 n2 n3 = 0 from by unfold fcE; rw [hz]; rfl] at F1
      have hm : axF n1 n2 n3 3 < 3 := by have := axF_lt n1 n2 n3 3; omega
      obtain ⟨f1, f2, f3, f4⟩ := face_facts n1 n2 n3 i1 i2 i3 hz (axF n1 n2 n3 3) (fun i hi => (axF_most n1 n2 n3 3 i hi).1) _ rfl
      exact law_flat_face a1 a2 a3 b1 b2 b3 c1 c2 c3 d1 d2 d3 _ _ n1 n2 n3 _ _ _ _ (axF n1 n2 n3 3) w (Lib.hid V1) (Lib.hid V2) hv (Lib.hid N1) (Lib.hid F1) rfl rfl hm f1 f2 f3 f4
end Go.Proofs.Yticjljbglimgeaa
