/-
  The reference's product: the digits.
-/
import Derived.Test.YtehfmapbodjppaaDoorRefH
namespace Go.Proofs.YtehfmapbodjppaaDoor
open Go.RowKit

def upd (F : Nat → Int) (p : Nat) (x : Int) : Nat → Int := fun j => if j = p then x else F j
theorem upd_at (F : Nat → Int) (p : Nat) (x : Int) : upd F p x p = x := by unfold upd; rw [if_pos rfl]
theorem upd_ne (F : Nat → Int) {p j : Nat} (x : Int) (h : j ≠ p) : upd F p x j = F j := by unfold upd; rw [if_neg h]
theorem p10_add (i k : Nat) : p10 (i + k) = p10 i * p10 k := by
  induction i with
  | zero => rw [Nat.zero_add]; show p10 k = 1 * p10 k; omega
  | succ i ih => rw [show i + 1 + k = (i + k) + 1 from by omega]; show 10 * p10 (i + k) = 10 * p10 i * p10 k; rw [ih, Int.mul_assoc]
theorem vs_upd (F : Nat → Int) {p M : Nat} (x : Int) (h : p < M) : vs (upd F p x) 0 M = vs F 0 M + p10 p * (x - F p) := by
  obtain ⟨l, rfl⟩ : ∃ l, M = (p + 1) + l := ⟨M - (p + 1), by omega⟩
  rw [vs_split, vs_split F, vs_snoc, vs_snoc, Nat.zero_add, Nat.zero_add, upd_at]
  rw [vs_same (D := upd F p x) (E := F) l (p + 1) (fun j h1 _ => upd_ne F x (by omega)), vs_same (D := upd F p x) (E := F) p 0 (fun j _ h2 => upd_ne F x (by omega)), Int.mul_sub]
  omega
/-- A round of the inner loop. -/
def stepF (F : Nat → Int) (p : Nat) (y : Int) : Nat → Int :=
  upd (upd (upd F p (F p + y)) (p + 1) (F (p + 1) + (F p + y) / 10)) p ((F p + y) % 10)
theorem stepF_vs (F : Nat → Int) {p M : Nat} (y : Int) (h : p + 1 < M) : vs (stepF F p y) 0 M = vs F 0 M + p10 p * y := by
  unfold stepF
  rw [vs_upd _ _ (by omega), vs_upd _ _ h, vs_upd _ _ (by omega)]
  rw [upd_ne _ _ (show p ≠ p + 1 by omega), upd_at, upd_ne _ _ (show p + 1 ≠ p by omega)]
  show vs F 0 M + p10 p * (F p + y - F p) + 10 * p10 p * (F (p + 1) + (F p + y) / 10 - F (p + 1)) + p10 p * ((F p + y) % 10 - (F p + y)) = _
  have e : (F p + y - F p) + 10 * (F (p + 1) + (F p + y) / 10 - F (p + 1)) + ((F p + y) % 10 - (F p + y)) = y := by omega
  rw [Int.mul_comm 10 (p10 p), Int.mul_assoc, Int.add_assoc, Int.add_assoc, ← Int.mul_add, ← Int.mul_add, ← Int.add_assoc, e]
structure Mid (A B F : Nat → Int) (i k m M : Nat) : Prop where
  val : vs F 0 M = vs A 0 i * vs B 0 m + p10 i * (A i * vs B 0 k)
  nn : ∀ j, 0 ≤ F j
  le : ∀ j, j ≠ i + k → F j ≤ 9
  top : F (i + k) ≤ 18
  zz : ∀ j, i + m ≤ j → F j = 0 ∨ (k = m ∧ j = i + m ∧ F j ≤ 9)
structure RowM (A B F : Nat → Int) (i m M : Nat) : Prop where
  val : vs F 0 M = vs A 0 i * vs B 0 m
  nn : ∀ j, 0 ≤ F j
  le : ∀ j, F j ≤ 9
  zz : ∀ j, i + m ≤ j → F j = 0
theorem RowM.mid {A B F : Nat → Int} {i m M : Nat} (h : RowM A B F i m M) : Mid A B F i 0 m M :=
  ⟨by rw [h.val]; show _ = _ + p10 i * (A i * 0); rw [Int.mul_zero, Int.mul_zero, Int.add_zero], h.nn, fun j _ => h.le j, by have := h.le (i + 0); omega, fun j hj => .inl (h.zz j hj)⟩
theorem Mid.row {A B F : Nat → Int} {i m M : Nat} (h : Mid A B F i m m M) : RowM A B F (i + 1) m M := by
  refine ⟨?_, h.nn, fun j => ?_, fun j hj => ?_⟩
  · rw [h.val, vs_snoc, Nat.zero_add, Int.add_mul, Int.mul_assoc]
  · by_cases e : j = i + m
    · rcases h.zz j (by omega) with q | q
      · omega
      · exact q.2.2
    · exact h.le j e
  · rcases h.zz j (by omega) with q | q
    · exact q
    · omega
theorem Mid.step {A B F : Nat → Int} {i k m M : Nat} (h : Mid A B F i k m M) (hk : k < m) (hM : i + m < M) (ha : 0 ≤ A i ∧ A i ≤ 9) (hb : 0 ≤ B k ∧ B k ≤ 9) : Mid A B (stepF F (i + k) (A i * B k)) i (k + 1) m M := by
  have y0 : 0 ≤ A i * B k := Int.mul_nonneg ha.1 hb.1
  have y1 : A i * B k ≤ 81 := by
    have : A i * B k ≤ 9 * B k := Int.mul_le_mul_of_nonneg_right ha.2 hb.1
    omega
  have n0 := h.nn (i + k)
  have n1 := h.nn (i + k + 1)
  have t := h.top
  have l1 := h.le (i + k + 1) (by omega)
  have s0 : stepF F (i + k) (A i * B k) (i + k) = (F (i + k) + A i * B k) % 10 := by unfold stepF; rw [upd_at]
  have s1 : stepF F (i + k) (A i * B k) (i + k + 1) = F (i + k + 1) + (F (i + k) + A i * B k) / 10 := by unfold stepF; rw [upd_ne _ _ (by omega), upd_at]
  have s2 : ∀ j, j ≠ i + k → j ≠ i + k + 1 → stepF F (i + k) (A i * B k) j = F j := fun j h1 h2 => by unfold stepF; rw [upd_ne _ _ h1, upd_ne _ _ h2, upd_ne _ _ h1]
  refine ⟨?_, fun j => ?_, fun j hj => ?_, ?_, fun j hj => ?_⟩
  · rw [stepF_vs F _ (by omega), h.val, vs_snoc, Nat.zero_add, p10_add, Int.mul_add, Int.mul_add, Int.add_assoc]
    congr 2
    rw [Int.mul_assoc, Int.mul_left_comm (p10 k)]
  · by_cases e : j = i + k
    · rw [e, s0]; omega
    · by_cases e1 : j = i + k + 1
      · rw [e1, s1]; omega
      · rw [s2 j e e1]; exact h.nn j
  · by_cases e : j = i + k
    · rw [e, s0]; omega
    · rw [s2 j e (by omega)]; exact h.le j e
  · rw [show i + (k + 1) = i + k + 1 from by omega, s1]; omega
  · by_cases e1 : j = i + k + 1
    · right
      refine ⟨by omega, by omega, ?_⟩
      rw [e1, s1]
      have : F (i + k + 1) = 0 := by
        rcases h.zz (i + k + 1) (by omega) with q | q
        · exact q
        · omega
      omega
    · left
      rw [s2 j (by omega) e1]
      rcases h.zz j hj with q | q
      · exact q
      · omega
end Go.Proofs.YtehfmapbodjppaaDoor
