/-
  Plain geometry: triangles turned round, with two places changed, seen from the other side. No program in sight.
-/
import Derived.Test.YthdcldbocakbpaaMtG
namespace Go.Proofs.Ythdcldbocakbpaa

theorem min_turn (x y z : Int) : min (min y z) x = min (min x y) z := by omega
theorem max_turn (x y z : Int) : max (max y z) x = max (max x y) z := by omega
theorem ar_turn2 (a1 a2 b1 b2 c1 c2 : Int) : ar c1 c2 a1 a2 b1 b2 = ar a1 a2 b1 b2 c1 c2 := by rw [ar_turn b1 b2 c1 c2 a1 a2, ar_turn]
theorem rT_turn (a1 a2 b1 b2 c1 c2 : Int) : rT b1 b2 c1 c2 a1 a2 = rT a1 a2 b1 b2 c1 c2 := by
  unfold rT
  rw [ar_turn a1 a2 b1 b2 c1 c2]
  cases s2 a1 a2 <;> cases s2 b1 b2 <;> cases s2 c1 c2 <;> rfl
theorem rT_swap (a1 a2 b1 b2 c1 c2 : Int) : rT b1 b2 a1 a2 c1 c2 = rT a1 a2 b1 b2 c1 c2 := by
  unfold rT
  rw [ar_swap a1 a2 b1 b2 c1 c2]
  have : (-ar a1 a2 b1 b2 c1 c2 != 0) = (ar a1 a2 b1 b2 c1 c2 != 0) := by
    generalize ar a1 a2 b1 b2 c1 c2 = n
    cases h : (n != 0) with
    | true => simp at h ⊢; exact h
    | false => simp at h ⊢; exact h
  rw [this]
  cases s2 a1 a2 <;> cases s2 b1 b2 <;> cases s2 c1 c2 <;> rfl
theorem r1_turn (a1 a2 b1 b2 c1 c2 x y : Int) : r1 b1 b2 c1 c2 a1 a2 x y = r1 a1 a2 b1 b2 c1 c2 x y := by
  rw [r1_is, r1_is]; exact min_turn _ _ _
theorem x3_turn (f1 f2 t1 t2 h1 h2 d1 d2 e1 e2 g1 g2 : Int) : x3 f1 f2 t1 t2 h1 h2 e1 e2 g1 g2 d1 d2 = x3 f1 f2 t1 t2 h1 h2 d1 d2 e1 e2 g1 g2 := by
  unfold x3; exact max_turn _ _ _
theorem x3_change (f1 f2 t1 t2 h1 h2 d1 d2 e1 e2 g1 g2 : Int) : x3 f1 f2 t1 t2 h1 h2 e1 e2 d1 d2 g1 g2 = x3 f1 f2 t1 t2 h1 h2 d1 d2 e1 e2 g1 g2 := by
  unfold x3; rw [Int.max_comm (eS f1 f2 t1 t2 h1 h2 e1 e2)]
theorem x3_swap (f1 f2 t1 t2 h1 h2 d1 d2 e1 e2 g1 g2 : Int) : x3 t1 t2 f1 f2 h1 h2 d1 d2 e1 e2 g1 g2 = x3 f1 f2 t1 t2 h1 h2 d1 d2 e1 e2 g1 g2 := by
  unfold x3; rw [eS_swap f1 f2 t1 t2 h1 h2 d1 d2, eS_swap f1 f2 t1 t2 h1 h2 e1 e2, eS_swap f1 f2 t1 t2 h1 h2 g1 g2]
theorem x3_flip (f1 f2 t1 t2 h1 h2 d1 d2 e1 e2 g1 g2 : Int) : x3 f2 f1 t2 t1 h2 h1 d2 d1 e2 e1 g2 g1 = x3 f1 f2 t1 t2 h1 h2 d1 d2 e1 e2 g1 g2 := by
  unfold x3; rw [eS_flip f1 f2 t1 t2 h1 h2 d1 d2, eS_flip f1 f2 t1 t2 h1 h2 e1 e2, eS_flip f1 f2 t1 t2 h1 h2 g1 g2]
section
variable (a1 a2 b1 b2 c1 c2 d1 d2 e1 e2 g1 g2 : Int)
theorem r3_turnA : r3 b1 b2 c1 c2 a1 a2 d1 d2 e1 e2 g1 g2 = r3 a1 a2 b1 b2 c1 c2 d1 d2 e1 e2 g1 g2 := by
  rw [r3_eq, r3_eq]; exact min_turn _ _ _
theorem r3_turnD : r3 a1 a2 b1 b2 c1 c2 e1 e2 g1 g2 d1 d2 = r3 a1 a2 b1 b2 c1 c2 d1 d2 e1 e2 g1 g2 := by
  rw [r3_eq, r3_eq, x3_turn a1, x3_turn b1, x3_turn c1]
theorem r3_swapA : r3 b1 b2 a1 a2 c1 c2 d1 d2 e1 e2 g1 g2 = r3 a1 a2 b1 b2 c1 c2 d1 d2 e1 e2 g1 g2 := by
  rw [r3_eq, r3_eq, x3_swap a1 a2 b1 b2 c1 c2, x3_swap c1 c2 a1 a2 b1 b2, x3_swap b1 b2 c1 c2 a1 a2]
  omega
theorem r3_swapD : r3 a1 a2 b1 b2 c1 c2 e1 e2 d1 d2 g1 g2 = r3 a1 a2 b1 b2 c1 c2 d1 d2 e1 e2 g1 g2 := by
  rw [r3_eq, r3_eq, x3_change a1, x3_change b1, x3_change c1]
theorem r3_flip : r3 a2 a1 b2 b1 c2 c1 d2 d1 e2 e1 g2 g1 = r3 a1 a2 b1 b2 c1 c2 d1 d2 e1 e2 g1 g2 := by
  rw [r3_eq, r3_eq, x3_flip a1 a2, x3_flip b1 b2, x3_flip c1 c2]
theorem mu_comm : mu d1 d2 e1 e2 g1 g2 a1 a2 b1 b2 c1 c2 = mu a1 a2 b1 b2 c1 c2 d1 d2 e1 e2 g1 g2 := by
  unfold mu; exact Int.min_comm _ _
theorem mu_turnA : mu b1 b2 c1 c2 a1 a2 d1 d2 e1 e2 g1 g2 = mu a1 a2 b1 b2 c1 c2 d1 d2 e1 e2 g1 g2 := by
  unfold mu; rw [r3_turnA a1 a2 b1 b2 c1 c2 d1 d2 e1 e2 g1 g2, r3_turnD d1 d2 e1 e2 g1 g2 a1 a2 b1 b2 c1 c2]
theorem mu_turnD : mu a1 a2 b1 b2 c1 c2 e1 e2 g1 g2 d1 d2 = mu a1 a2 b1 b2 c1 c2 d1 d2 e1 e2 g1 g2 := by
  unfold mu; rw [r3_turnD a1 a2 b1 b2 c1 c2 d1 d2 e1 e2 g1 g2, r3_turnA d1 d2 e1 e2 g1 g2 a1 a2 b1 b2 c1 c2]
theorem mu_swapA : mu b1 b2 a1 a2 c1 c2 d1 d2 e1 e2 g1 g2 = mu a1 a2 b1 b2 c1 c2 d1 d2 e1 e2 g1 g2 := by
  unfold mu; rw [r3_swapA a1 a2 b1 b2 c1 c2 d1 d2 e1 e2 g1 g2, r3_swapD d1 d2 e1 e2 g1 g2 a1 a2 b1 b2 c1 c2]
theorem mu_swapD : mu a1 a2 b1 b2 c1 c2 e1 e2 d1 d2 g1 g2 = mu a1 a2 b1 b2 c1 c2 d1 d2 e1 e2 g1 g2 := by
  unfold mu; rw [r3_swapD a1 a2 b1 b2 c1 c2 d1 d2 e1 e2 g1 g2, r3_swapA d1 d2 e1 e2 g1 g2 a1 a2 b1 b2 c1 c2]
theorem mu_flip : mu a2 a1 b2 b1 c2 c1 d2 d1 e2 e1 g2 g1 = mu a1 a2 b1 b2 c1 c2 d1 d2 e1 e2 g1 g2 := by
  unfold mu; rw [r3_flip a1 a2 b1 b2 c1 c2 d1 d2 e1 e2 g1 g2, r3_flip d1 d2 e1 e2 g1 g2 a1 a2 b1 b2 c1 c2]
/-- Both ways are one; one turned round, the other with two places changed. -/
theorem mu_turns : mu e1 e2 d1 d2 g1 g2 b1 b2 c1 c2 a1 a2 = mu a1 a2 b1 b2 c1 c2 d1 d2 e1 e2 g1 g2 := by
  rw [mu_comm b1 b2 c1 c2 a1 a2 e1 e2 d1 d2 g1 g2, mu_turnA a1 a2 b1 b2 c1 c2 e1 e2 d1 d2 g1 g2, mu_swapD a1 a2 b1 b2 c1 c2 d1 d2 e1 e2 g1 g2]
theorem r4_turn (k1 k2 : Int) : r4 b1 b2 c1 c2 a1 a2 d1 d2 e1 e2 g1 g2 k1 k2 = r4 a1 a2 b1 b2 c1 c2 d1 d2 e1 e2 g1 g2 k1 k2 := by
  rw [r4_eq, r4_eq]; exact min_turn _ _ _
theorem cB_turn (x y fx fy : Int) : cB x y fx fy b1 b2 c1 c2 a1 a2 = cB x y fx fy a1 a2 b1 b2 c1 c2 := by
  unfold cB; rw [min_turn a1 b1 c1, min_turn a2 b2 c2, max_turn a1 b1 c1, max_turn a2 b2 c2]
theorem sqV_turn (x y s : Int) : sqV x y s b1 b2 c1 c2 a1 a2 = sqV x y s a1 a2 b1 b2 c1 c2 := by
  unfold sqV; rw [rT_turn, cB_turn, r4_turn]
end
end Go.Proofs.Ythdcldbocakbpaa
