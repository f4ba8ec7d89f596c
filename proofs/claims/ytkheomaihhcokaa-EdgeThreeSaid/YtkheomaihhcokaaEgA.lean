/-
  The reference limewashref14: Has. (gen/EgA.py)
-/
import Derived.Test.YtkheomaihhcokaaEgPl
import Derived.Test.YtkheomaihhcokaaGaB
namespace Go.Proofs.Ytkheomaihhcokaa
open Go.RowKit

set_option maxRecDepth 100000 in
set_option maxHeartbeats 16000000 in
theorem rhas_any (v0 t0 u0 v1 t1 u1 v2 t2 u2 a b : Int) (w : World) :
    Calls Try.prog 36 #[.agg #[.int .i64 v0, .int .i64 t0, .int .i64 u0, .int .i64 v1, .int .i64 t1, .int .i64 u1, .int .i64 v2, .int .i64 t2, .int .i64 u2], .int .i64 a, .int .i64 b] w fun e' w' => e' = .returned (.bool (hasB v0 v1 v2 a b)) ∧ Below w.heap.size w w' := by
  have HB := Lib.hid (Below.refl w.heap.size w)
  obtain ⟨z, hz⟩ : ∃ z, z = hasB v0 v1 v2 a b := ⟨_, rfl⟩
  rw [← hz]
  have HZ := Lib.hid hz
  clear hz
  go_enter Try.func36, Try.ntmps36
  go_upto_region 1 with fail
  have hbt := below_new1 w (.cells #[.int .i64 v0, .int .i64 t0, .int .i64 u0, .int .i64 v1, .int .i64 t1, .int .i64 u1, .int .i64 v2, .int .i64 t2, .int .i64 u2] 51)
  have zt : (w.alloc (.cells #[.int .i64 v0, .int .i64 t0, .int .i64 u0, .int .i64 v1, .int .i64 t1, .int .i64 u1, .int .i64 v2, .int .i64 t2, .int .i64 u2] 51)).heap.size = w.heap.size + 1 := by simp
  have HB := Lib.hid hbt
  have kt := Lib.hid (Lok.new w 51 #[.int .i64 v0, .int .i64 t0, .int .i64 u0, .int .i64 v1, .int .i64 t1, .int .i64 u1, .int .i64 v2, .int .i64 t2, .int .i64 u2])
  clear hbt
  generalize w.alloc (.cells #[.int .i64 v0, .int .i64 t0, .int .i64 u0, .int .i64 v1, .int .i64 t1, .int .i64 u1, .int .i64 v2, .int .i64 t2, .int .i64 u2] 51) = Vt at *
  clear zt
  go_wp2_with fail
  have HB0 := HB
  have kt0 := kt
  clear HB kt
  go_loopw [7] (fun x wr => ∃ k : Nat, x = .int .i64 k ∧ k ≤ 3 ∧ (0 < k → ed3 v0 v1 a b = false) ∧ (1 < k → ed3 v1 v2 a b = false) ∧ (2 < k → ed3 v2 v0 a b = false) ∧ Below Vt.heap.size Vt wr) (fun x _ => 3 - (intOf x).toNat)
  case atStart => exact ⟨0, rfl, by omega, fun h => absurd h (by omega), fun h => absurd h (by omega), fun h => absurd h (by omega), Below.refl _ _⟩
  case round =>
    obtain ⟨k, rfl, hk, A0, A1, A2, hB⟩ := hrel
    have A := Lib.hid (And.intro A0 (And.intro A1 A2))
    clear A0 A1 A2
    have HB := Lib.hid (HB0.out.trans (hB.mono HB0.out.size))
    have kt := Lib.hid (kt0.out.keep hB)
    have B0 := Lib.hid hB
    clear hB
    rcases (show k = 0 ∨ k = 1 ∨ k = 2 ∨ k = 3 by omega) with rfl | rfl | rfl | rfl
    · skip
      by_cases h0 : v0 = v1
      · have E : Hid (ed3 v0 v1 a b = false) := Lib.hid (ed3_no (by omega))
        subst h0
        have g0 := kt.out.cell (i := 0) rfl
        have g3 := kt.out.cell (i := 3) rfl
        have g6 := kt.out.cell (i := 6) rfl
        clear HZ
        go_wp2
        go_roundw
        case rel => exact ⟨1, by go_num, by omega, fun _ => E.out, fun h => absurd h (by omega), fun h => absurd h (by omega), B0.out⟩
        case measure => simp [intOf]
      · have nh0 : (v0 == v1) = false := by rw [beq_eq_false_iff_ne]; exact h0
        have m0 : (v0 != v1) = true := by rw [bne, nh0]; rfl
        by_cases h1 : v0 = a
        · by_cases h2 : v1 = b
          · have E : Hid (z = true) := Lib.hid (by rw [HZ.out]; exact hasB_iff.2 (.inl (ed3_yes h0 (by omega))))
            subst h1
            subst h2
            have g0 := kt.out.cell (i := 0) rfl
            have g3 := kt.out.cell (i := 3) rfl
            have g6 := kt.out.cell (i := 6) rfl
            clear HZ A
            go_wp2
            go_ret
            exact ⟨by rw [E.out]; rfl, HB.out⟩
          · have nh2 : (v1 == b) = false := by rw [beq_eq_false_iff_ne]; exact h2
            by_cases h3 : v0 = b
            · have E : Hid (ed3 v0 v1 a b = false) := Lib.hid (ed3_no (by omega))
              subst h1
              subst h3
              have g0 := kt.out.cell (i := 0) rfl
              have g3 := kt.out.cell (i := 3) rfl
              have g6 := kt.out.cell (i := 6) rfl
              clear HZ
              go_wp2
              go_roundw
              case rel => exact ⟨1, by go_num, by omega, fun _ => E.out, fun h => absurd h (by omega), fun h => absurd h (by omega), B0.out⟩
              case measure => simp [intOf]
            · have nh3 : (v0 == b) = false := by rw [beq_eq_false_iff_ne]; exact h3
              have E : Hid (ed3 v0 v1 a b = false) := Lib.hid (ed3_no (by omega))
              subst h1
              have g0 := kt.out.cell (i := 0) rfl
              have g3 := kt.out.cell (i := 3) rfl
              have g6 := kt.out.cell (i := 6) rfl
              clear HZ
              go_wp2
              go_roundw
              case rel => exact ⟨1, by go_num, by omega, fun _ => E.out, fun h => absurd h (by omega), fun h => absurd h (by omega), B0.out⟩
              case measure => simp [intOf]
        · have nh1 : (v0 == a) = false := by rw [beq_eq_false_iff_ne]; exact h1
          by_cases h3 : v0 = b
          · by_cases h4 : v1 = a
            · have E : Hid (z = true) := Lib.hid (by rw [HZ.out]; exact hasB_iff.2 (.inl (ed3_yes h0 (by omega))))
              subst h3
              subst h4
              have g0 := kt.out.cell (i := 0) rfl
              have g3 := kt.out.cell (i := 3) rfl
              have g6 := kt.out.cell (i := 6) rfl
              clear HZ A
              go_wp2
              go_ret
              exact ⟨by rw [E.out]; rfl, HB.out⟩
            · have nh4 : (v1 == a) = false := by rw [beq_eq_false_iff_ne]; exact h4
              have E : Hid (ed3 v0 v1 a b = false) := Lib.hid (ed3_no (by omega))
              subst h3
              have g0 := kt.out.cell (i := 0) rfl
              have g3 := kt.out.cell (i := 3) rfl
              have g6 := kt.out.cell (i := 6) rfl
              clear HZ
              go_wp2
              go_roundw
              case rel => exact ⟨1, by go_num, by omega, fun _ => E.out, fun h => absurd h (by omega), fun h => absurd h (by omega), B0.out⟩
              case measure => simp [intOf]
          · have nh3 : (v0 == b) = false := by rw [beq_eq_false_iff_ne]; exact h3
            have E : Hid (ed3 v0 v1 a b = false) := Lib.hid (ed3_no (by omega))
            have g0 := kt.out.cell (i := 0) rfl
            have g3 := kt.out.cell (i := 3) rfl
            have g6 := kt.out.cell (i := 6) rfl
            clear HZ
            go_wp2
            go_roundw
            case rel => exact ⟨1, by go_num, by omega, fun _ => E.out, fun h => absurd h (by omega), fun h => absurd h (by omega), B0.out⟩
            case measure => simp [intOf]
    · skip
      by_cases h0 : v1 = v2
      · have E : Hid (ed3 v1 v2 a b = false) := Lib.hid (ed3_no (by omega))
        subst h0
        have g0 := kt.out.cell (i := 0) rfl
        have g3 := kt.out.cell (i := 3) rfl
        have g6 := kt.out.cell (i := 6) rfl
        clear HZ
        go_wp2
        go_roundw
        case rel => exact ⟨2, by go_num, by omega, fun _ => A.out.1 (by omega), fun _ => E.out, fun h => absurd h (by omega), B0.out⟩
        case measure => simp [intOf]
      · have nh0 : (v1 == v2) = false := by rw [beq_eq_false_iff_ne]; exact h0
        have m0 : (v1 != v2) = true := by rw [bne, nh0]; rfl
        by_cases h1 : v1 = a
        · by_cases h2 : v2 = b
          · have E : Hid (z = true) := Lib.hid (by rw [HZ.out]; exact hasB_iff.2 (.inr <| .inl (ed3_yes h0 (by omega))))
            subst h1
            subst h2
            have g0 := kt.out.cell (i := 0) rfl
            have g3 := kt.out.cell (i := 3) rfl
            have g6 := kt.out.cell (i := 6) rfl
            clear HZ A
            go_wp2
            go_ret
            exact ⟨by rw [E.out]; rfl, HB.out⟩
          · have nh2 : (v2 == b) = false := by rw [beq_eq_false_iff_ne]; exact h2
            by_cases h3 : v1 = b
            · have E : Hid (ed3 v1 v2 a b = false) := Lib.hid (ed3_no (by omega))
              subst h1
              subst h3
              have g0 := kt.out.cell (i := 0) rfl
              have g3 := kt.out.cell (i := 3) rfl
              have g6 := kt.out.cell (i := 6) rfl
              clear HZ
              go_wp2
              go_roundw
              case rel => exact ⟨2, by go_num, by omega, fun _ => A.out.1 (by omega), fun _ => E.out, fun h => absurd h (by omega), B0.out⟩
              case measure => simp [intOf]
            · have nh3 : (v1 == b) = false := by rw [beq_eq_false_iff_ne]; exact h3
              have E : Hid (ed3 v1 v2 a b = false) := Lib.hid (ed3_no (by omega))
              subst h1
              have g0 := kt.out.cell (i := 0) rfl
              have g3 := kt.out.cell (i := 3) rfl
              have g6 := kt.out.cell (i := 6) rfl
              clear HZ
              go_wp2
              go_roundw
              case rel => exact ⟨2, by go_num, by omega, fun _ => A.out.1 (by omega), fun _ => E.out, fun h => absurd h (by omega), B0.out⟩
              case measure => simp [intOf]
        · have nh1 : (v1 == a) = false := by rw [beq_eq_false_iff_ne]; exact h1
          by_cases h3 : v1 = b
          · by_cases h4 : v2 = a
            · have E : Hid (z = true) := Lib.hid (by rw [HZ.out]; exact hasB_iff.2 (.inr <| .inl (ed3_yes h0 (by omega))))
              subst h3
              subst h4
              have g0 := kt.out.cell (i := 0) rfl
              have g3 := kt.out.cell (i := 3) rfl
              have g6 := kt.out.cell (i := 6) rfl
              clear HZ A
              go_wp2
              go_ret
              exact ⟨by rw [E.out]; rfl, HB.out⟩
            · have nh4 : (v2 == a) = false := by rw [beq_eq_false_iff_ne]; exact h4
              have E : Hid (ed3 v1 v2 a b = false) := Lib.hid (ed3_no (by omega))
              subst h3
              have g0 := kt.out.cell (i := 0) rfl
              have g3 := kt.out.cell (i := 3) rfl
              have g6 := kt.out.cell (i := 6) rfl
              clear HZ
              go_wp2
              go_roundw
              case rel => exact ⟨2, by go_num, by omega, fun _ => A.out.1 (by omega), fun _ => E.out, fun h => absurd h (by omega), B0.out⟩
              case measure => simp [intOf]
          · have nh3 : (v1 == b) = false := by rw [beq_eq_false_iff_ne]; exact h3
            have E : Hid (ed3 v1 v2 a b = false) := Lib.hid (ed3_no (by omega))
            have g0 := kt.out.cell (i := 0) rfl
            have g3 := kt.out.cell (i := 3) rfl
            have g6 := kt.out.cell (i := 6) rfl
            clear HZ
            go_wp2
            go_roundw
            case rel => exact ⟨2, by go_num, by omega, fun _ => A.out.1 (by omega), fun _ => E.out, fun h => absurd h (by omega), B0.out⟩
            case measure => simp [intOf]
    · skip
      by_cases h0 : v2 = v0
      · have E : Hid (ed3 v2 v0 a b = false) := Lib.hid (ed3_no (by omega))
        subst h0
        have g0 := kt.out.cell (i := 0) rfl
        have g3 := kt.out.cell (i := 3) rfl
        have g6 := kt.out.cell (i := 6) rfl
        clear HZ
        go_wp2
        go_roundw
        case rel => exact ⟨3, by go_num, by omega, fun _ => A.out.1 (by omega), fun _ => A.out.2.1 (by omega), fun _ => E.out, B0.out⟩
        case measure => simp [intOf]
      · have nh0 : (v2 == v0) = false := by rw [beq_eq_false_iff_ne]; exact h0
        have m0 : (v2 != v0) = true := by rw [bne, nh0]; rfl
        by_cases h1 : v2 = a
        · by_cases h2 : v0 = b
          · have E : Hid (z = true) := Lib.hid (by rw [HZ.out]; exact hasB_iff.2 (.inr <| .inr (ed3_yes h0 (by omega))))
            subst h1
            subst h2
            have g0 := kt.out.cell (i := 0) rfl
            have g3 := kt.out.cell (i := 3) rfl
            have g6 := kt.out.cell (i := 6) rfl
            clear HZ A
            go_wp2
            go_ret
            exact ⟨by rw [E.out]; rfl, HB.out⟩
          · have nh2 : (v0 == b) = false := by rw [beq_eq_false_iff_ne]; exact h2
            by_cases h3 : v2 = b
            · have E : Hid (ed3 v2 v0 a b = false) := Lib.hid (ed3_no (by omega))
              subst h1
              subst h3
              have g0 := kt.out.cell (i := 0) rfl
              have g3 := kt.out.cell (i := 3) rfl
              have g6 := kt.out.cell (i := 6) rfl
              clear HZ
              go_wp2
              go_roundw
              case rel => exact ⟨3, by go_num, by omega, fun _ => A.out.1 (by omega), fun _ => A.out.2.1 (by omega), fun _ => E.out, B0.out⟩
              case measure => simp [intOf]
            · have nh3 : (v2 == b) = false := by rw [beq_eq_false_iff_ne]; exact h3
              have E : Hid (ed3 v2 v0 a b = false) := Lib.hid (ed3_no (by omega))
              subst h1
              have g0 := kt.out.cell (i := 0) rfl
              have g3 := kt.out.cell (i := 3) rfl
              have g6 := kt.out.cell (i := 6) rfl
              clear HZ
              go_wp2
              go_roundw
              case rel => exact ⟨3, by go_num, by omega, fun _ => A.out.1 (by omega), fun _ => A.out.2.1 (by omega), fun _ => E.out, B0.out⟩
              case measure => simp [intOf]
        · have nh1 : (v2 == a) = false := by rw [beq_eq_false_iff_ne]; exact h1
          by_cases h3 : v2 = b
          · by_cases h4 : v0 = a
            · have E : Hid (z = true) := Lib.hid (by rw [HZ.out]; exact hasB_iff.2 (.inr <| .inr (ed3_yes h0 (by omega))))
              subst h3
              subst h4
              have g0 := kt.out.cell (i := 0) rfl
              have g3 := kt.out.cell (i := 3) rfl
              have g6 := kt.out.cell (i := 6) rfl
              clear HZ A
              go_wp2
              go_ret
              exact ⟨by rw [E.out]; rfl, HB.out⟩
            · have nh4 : (v0 == a) = false := by rw [beq_eq_false_iff_ne]; exact h4
              have E : Hid (ed3 v2 v0 a b = false) := Lib.hid (ed3_no (by omega))
              subst h3
              have g0 := kt.out.cell (i := 0) rfl
              have g3 := kt.out.cell (i := 3) rfl
              have g6 := kt.out.cell (i := 6) rfl
              clear HZ
              go_wp2
              go_roundw
              case rel => exact ⟨3, by go_num, by omega, fun _ => A.out.1 (by omega), fun _ => A.out.2.1 (by omega), fun _ => E.out, B0.out⟩
              case measure => simp [intOf]
          · have nh3 : (v2 == b) = false := by rw [beq_eq_false_iff_ne]; exact h3
            have E : Hid (ed3 v2 v0 a b = false) := Lib.hid (ed3_no (by omega))
            have g0 := kt.out.cell (i := 0) rfl
            have g3 := kt.out.cell (i := 3) rfl
            have g6 := kt.out.cell (i := 6) rfl
            clear HZ
            go_wp2
            go_roundw
            case rel => exact ⟨3, by go_num, by omega, fun _ => A.out.1 (by omega), fun _ => A.out.2.1 (by omega), fun _ => E.out, B0.out⟩
            case measure => simp [intOf]
    · have E : Hid (z = false) := Lib.hid (by rw [HZ.out]; unfold hasB; rw [A.out.1 (by omega), A.out.2.1 (by omega), A.out.2.2 (by omega)]; rfl)
      go_wp2
      go_ret
      exact ⟨by rw [E.out]; rfl, HB.out⟩
end Go.Proofs.Ytkheomaihhcokaa
