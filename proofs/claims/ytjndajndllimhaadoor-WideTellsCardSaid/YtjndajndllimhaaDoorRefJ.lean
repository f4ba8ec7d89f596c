/-
  The reference's Is and Cmp.
-/
import Derived.Test.YtjndajndllimhaaDoorRefI
namespace Go.Proofs.YtjndajndllimhaaDoor
open Go.RowKit

set_option maxHeartbeats 400000 in
theorem ris_yes (hi lo : Int) (w : World) (h : Rt hi lo) :
    Calls Tryd.prog 12 #[.agg #[.int .i64 hi, .int .i64 lo]] w fun e w' => e = .returned (.bool true) ∧ Below w.heap.size w w' := by
  obtain ⟨c1, c2, c3, c4⟩ := h
  go_enter Tryd.func12, Tryd.ntmps12
  go_wp2
  go_ret
  exact ⟨rfl, (Below.refl _ _).alloc (Nat.le_refl _) _⟩
set_option maxHeartbeats 400000 in
theorem ris_no (hi lo : Int) (w : World) (h : ¬ Rt hi lo) :
    Calls Tryd.prog 12 #[.agg #[.int .i64 hi, .int .i64 lo]] w fun e w' => e = .returned (.bool false) ∧ Below w.heap.size w w' := by
  unfold Rt at h
  by_cases c1 : 0 ≤ lo
  · by_cases c2 : lo < 1000000000000000000
    · by_cases c3 : -4000000000000000000 ≤ hi
      · by_cases c4 : hi ≤ 4000000000000000000
        · exact absurd ⟨c1, c2, c3, c4⟩ h
        · clear h
          have d4 : decide (hi ≤ 4000000000000000000) = false := by simpa using c4
          go_enter Tryd.func12, Tryd.ntmps12
          go_wp2
          go_ret
          exact ⟨rfl, (Below.refl _ _).alloc (Nat.le_refl _) _⟩
      · clear h
        have d3 : decide (-4000000000000000000 ≤ hi) = false := by simpa using c3
        go_enter Tryd.func12, Tryd.ntmps12
        go_wp2
        go_ret
        exact ⟨rfl, (Below.refl _ _).alloc (Nat.le_refl _) _⟩
    · clear h
      have d2 : decide (lo < 1000000000000000000) = false := by simpa using c2
      go_enter Tryd.func12, Tryd.ntmps12
      go_wp2
      go_ret
      exact ⟨rfl, (Below.refl _ _).alloc (Nat.le_refl _) _⟩
  · clear h
    have d1 : decide (0 ≤ lo) = false := by simpa using c1
    go_enter Tryd.func12, Tryd.ntmps12
    go_wp2
    go_ret
    exact ⟨rfl, (Below.refl _ _).alloc (Nat.le_refl _) _⟩
theorem ris_any (hi lo : Int) (w : World) :
    Calls Tryd.prog 12 #[.agg #[.int .i64 hi, .int .i64 lo]] w fun e w' => e = .returned (.bool (isB hi lo)) ∧ Below w.heap.size w w' := by
  unfold isB
  by_cases h : Rt hi lo
  · rw [decide_eq_true h]; exact ris_yes hi lo w h
  · rw [decide_eq_false h]; exact ris_no hi lo w h

set_option maxHeartbeats 400000 in
theorem rcmp_any (ah al bh bl : Int) (w : World) :
    Calls Tryd.prog 21 #[.agg #[.int .i64 ah, .int .i64 al], .agg #[.int .i64 bh, .int .i64 bl]] w fun e w' => e = .returned (.int .i64 (cmpI ah al bh bl)) ∧ Below w.heap.size w w' := by
  go_enter Tryd.func21, Tryd.ntmps21
  go_wp2
  all_goals (go_ret; exact ⟨ret_int (by first | exact cmpI_eq (by omega) (by omega) | exact cmpI_lt (by omega) | exact cmpI_gt (by omega)), ((Below.refl _ _).alloc (Nat.le_refl _) _).alloc (by simp) _⟩)
end Go.Proofs.YtjndajndllimhaaDoor
