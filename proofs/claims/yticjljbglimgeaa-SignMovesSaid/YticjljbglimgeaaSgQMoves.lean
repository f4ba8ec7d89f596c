/-
  SignMoves: for every four points of a plane and every five of space, small or not, the law's function returns true, and its arguments read afterwards as they did before; no condition.
-/
import Derived.Test.YticjljbglimgeaaSgM
import Derived.Test.YticjljbglimgeaaOpenA
import Derived.Test.YticjljbglimgeaaOpen
namespace Go.Proofs.Yticjljbglimgeaa
open Go.ChangeShapes Go.WideShapes Go.ChangeAt Go.RowKit Go.Joins

set_option maxRecDepth 100000 in
theorem lifted_SignMoves (os : Os) (started : os.Started) (H : Type) (enc : TypeId × Value → H) :
    ReturnsInHanded {} Try.checked os 6 .any (Rows.signMovesSpec.pre6 enc Try.prog Try.f6 Rows.signMovesRow.domain false) (Rows.signMovesSpec.post enc Try.prog Try.f6 false true false false) := by
  refine returnsInHanded_of_change (C := Try.checked) own started (by kernel_rfl) Try.func6
    (ChangeSpec.witness6 (enc := enc) (C := Try.checked) false ⟨#[], #[.agg #[.int .i64 0, .int .i64 0], .agg #[.int .i64 0, .int .i64 0], .agg #[.int .i64 0, .int .i64 0], .agg #[.int .i64 0, .int .i64 0], .agg #[.int .i64 0, .int .i64 0, .int .i64 0], .agg #[.int .i64 0, .int .i64 0, .int .i64 0], .agg #[.int .i64 0, .int .i64 0, .int .i64 0], .agg #[.int .i64 0, .int .i64 0, .int .i64 0], .agg #[.int .i64 0, .int .i64 0, .int .i64 0]], []⟩ 8 (by kernel_rfl) (by kernel_rfl) (by kernel_rfl) (by kernel_rfl)) ?_
  intro W base args ds gs before hval0 hW _ _
  have hval : ∀ (j : Nat) t v, (Try.f6).params[j]? = some t → args[j]? = some v → Value.okWide Try.prog W .any base t v := hval0
  have hW' := hW
  obtain ⟨p, q, hA0, hV, rfl, hfz, hnd⟩ := hW
  have hA : DataW.TrodAll enc Try.prog W 0 (fun _ => true) true (Try.f6).params.toList args.toList ds p := hA0
  rw [Try.params6] at hA hval
  obtain ⟨v0, vs0, d0, ds0, p0, q0, hargs, rfl, rfl, h0, r0⟩ := trodAll_cons hA
  obtain ⟨v1, vs1, d1, ds1, p1, q1, rfl, rfl, rfl, h1, r1⟩ := trodAll_cons r0
  obtain ⟨v2, vs2, d2, ds2, p2, q2, rfl, rfl, rfl, h2, r2⟩ := trodAll_cons r1
  obtain ⟨v3, vs3, d3, ds3, p3, q3, rfl, rfl, rfl, h3, r3⟩ := trodAll_cons r2
  obtain ⟨v4, vs4, d4, ds4, p4, q4, rfl, rfl, rfl, h4, r4⟩ := trodAll_cons r3
  obtain ⟨v5, vs5, d5, ds5, p5, q5, rfl, rfl, rfl, h5, r5⟩ := trodAll_cons r4
  obtain ⟨v6, vs6, d6, ds6, p6, q6, rfl, rfl, rfl, h6, r6⟩ := trodAll_cons r5
  obtain ⟨v7, vs7, d7, ds7, p7, q7, rfl, rfl, rfl, h7, r7⟩ := trodAll_cons r6
  obtain ⟨v8, vs8, d8, ds8, p8, q8, rfl, rfl, rfl, h8, r8⟩ := trodAll_cons r7
  obtain ⟨rfl, rfl, rfl⟩ := trodAll_nil r8
  obtain rfl : args = #[v0, v1, v2, v3, v4, v5, v6, v7, v8] := Array.ext' hargs
  obtain ⟨rfl, rfl⟩ := trodVars_none hV
  have k0 : ∀ W', Below W.heap.size W W' → DataW.Trod enc Try.prog W' 0 (fun b => decide (b < W.heap.size)) true 23 v0 d0 p0 := fun W' hb => Below.trod laidOut (by kernel_rfl) (of_decide_eq_true (by kernel_rfl)) h0 hb (fun x hx => hW'.lt x (by simp [hx]))
  have k1 : ∀ W', Below W.heap.size W W' → DataW.Trod enc Try.prog W' 0 (fun b => decide (b < W.heap.size)) true 23 v1 d1 p1 := fun W' hb => Below.trod laidOut (by kernel_rfl) (of_decide_eq_true (by kernel_rfl)) h1 hb (fun x hx => hW'.lt x (by simp [hx]))
  have k2 : ∀ W', Below W.heap.size W W' → DataW.Trod enc Try.prog W' 0 (fun b => decide (b < W.heap.size)) true 23 v2 d2 p2 := fun W' hb => Below.trod laidOut (by kernel_rfl) (of_decide_eq_true (by kernel_rfl)) h2 hb (fun x hx => hW'.lt x (by simp [hx]))
  have k3 : ∀ W', Below W.heap.size W W' → DataW.Trod enc Try.prog W' 0 (fun b => decide (b < W.heap.size)) true 23 v3 d3 p3 := fun W' hb => Below.trod laidOut (by kernel_rfl) (of_decide_eq_true (by kernel_rfl)) h3 hb (fun x hx => hW'.lt x (by simp [hx]))
  have k4 : ∀ W', Below W.heap.size W W' → DataW.Trod enc Try.prog W' 0 (fun b => decide (b < W.heap.size)) true 25 v4 d4 p4 := fun W' hb => Below.trod laidOut (by kernel_rfl) (of_decide_eq_true (by kernel_rfl)) h4 hb (fun x hx => hW'.lt x (by simp [hx]))
  have k5 : ∀ W', Below W.heap.size W W' → DataW.Trod enc Try.prog W' 0 (fun b => decide (b < W.heap.size)) true 25 v5 d5 p5 := fun W' hb => Below.trod laidOut (by kernel_rfl) (of_decide_eq_true (by kernel_rfl)) h5 hb (fun x hx => hW'.lt x (by simp [hx]))
  have k6 : ∀ W', Below W.heap.size W W' → DataW.Trod enc Try.prog W' 0 (fun b => decide (b < W.heap.size)) true 25 v6 d6 p6 := fun W' hb => Below.trod laidOut (by kernel_rfl) (of_decide_eq_true (by kernel_rfl)) h6 hb (fun x hx => hW'.lt x (by simp [hx]))
  have k7 : ∀ W', Below W.heap.size W W' → DataW.Trod enc Try.prog W' 0 (fun b => decide (b < W.heap.size)) true 25 v7 d7 p7 := fun W' hb => Below.trod laidOut (by kernel_rfl) (of_decide_eq_true (by kernel_rfl)) h7 hb (fun x hx => hW'.lt x (by simp [hx]))
  have k8 : ∀ W', Below W.heap.size W W' → DataW.Trod enc Try.prog W' 0 (fun b => decide (b < W.heap.size)) true 25 v8 d8 p8 := fun W' hb => Below.trod laidOut (by kernel_rfl) (of_decide_eq_true (by kernel_rfl)) h8 hb (fun x hx => hW'.lt x (by simp [hx]))
  obtain ⟨c0_0, c0_1, y0_0, y0_1, m0, rfl, -, -, hy0_0, hy0_1⟩ := open_agg2 Try.underlying23 (by kernel_rfl) (by kernel_rfl) (hval 0 23 v0 rfl rfl) h0
  obtain ⟨x0_0, e, -, wx0_0⟩ := DataW.trod_int Try.underlying3 hy0_0
  simp at e
  subst e
  clear hy0_0
  have b0_0 := bd_i64 wx0_0
  obtain ⟨x0_1, e, -, wx0_1⟩ := DataW.trod_int Try.underlying3 hy0_1
  simp at e
  subst e
  clear hy0_1
  have b0_1 := bd_i64 wx0_1
  obtain ⟨c1_0, c1_1, y1_0, y1_1, m1, rfl, -, -, hy1_0, hy1_1⟩ := open_agg2 Try.underlying23 (by kernel_rfl) (by kernel_rfl) (hval 1 23 v1 rfl rfl) h1
  obtain ⟨x1_0, e, -, wx1_0⟩ := DataW.trod_int Try.underlying3 hy1_0
  simp at e
  subst e
  clear hy1_0
  have b1_0 := bd_i64 wx1_0
  obtain ⟨x1_1, e, -, wx1_1⟩ := DataW.trod_int Try.underlying3 hy1_1
  simp at e
  subst e
  clear hy1_1
  have b1_1 := bd_i64 wx1_1
  obtain ⟨c2_0, c2_1, y2_0, y2_1, m2, rfl, -, -, hy2_0, hy2_1⟩ := open_agg2 Try.underlying23 (by kernel_rfl) (by kernel_rfl) (hval 2 23 v2 rfl rfl) h2
  obtain ⟨x2_0, e, -, wx2_0⟩ := DataW.trod_int Try.underlying3 hy2_0
  simp at e
  subst e
  clear hy2_0
  have b2_0 := bd_i64 wx2_0
  obtain ⟨x2_1, e, -, wx2_1⟩ := DataW.trod_int Try.underlying3 hy2_1
  simp at e
  subst e
  clear hy2_1
  have b2_1 := bd_i64 wx2_1
  obtain ⟨c3_0, c3_1, y3_0, y3_1, m3, rfl, -, -, hy3_0, hy3_1⟩ := open_agg2 Try.underlying23 (by kernel_rfl) (by kernel_rfl) (hval 3 23 v3 rfl rfl) h3
  obtain ⟨x3_0, e, -, wx3_0⟩ := DataW.trod_int Try.underlying3 hy3_0
  simp at e
  subst e
  clear hy3_0
  have b3_0 := bd_i64 wx3_0
  obtain ⟨x3_1, e, -, wx3_1⟩ := DataW.trod_int Try.underlying3 hy3_1
  simp at e
  subst e
  clear hy3_1
  have b3_1 := bd_i64 wx3_1
  obtain ⟨c4_0, c4_1, c4_2, y4_0, y4_1, y4_2, m4, rfl, -, -, hy4_0, hy4_1, hy4_2⟩ := open_agg3 Try.underlying25 (by kernel_rfl) (by kernel_rfl) (hval 4 25 v4 rfl rfl) h4
  obtain ⟨x4_0, e, -, wx4_0⟩ := DataW.trod_int Try.underlying3 hy4_0
  simp at e
  subst e
  clear hy4_0
  have b4_0 := bd_i64 wx4_0
  obtain ⟨x4_1, e, -, wx4_1⟩ := DataW.trod_int Try.underlying3 hy4_1
  simp at e
  subst e
  clear hy4_1
  have b4_1 := bd_i64 wx4_1
  obtain ⟨x4_2, e, -, wx4_2⟩ := DataW.trod_int Try.underlying3 hy4_2
  simp at e
  subst e
  clear hy4_2
  have b4_2 := bd_i64 wx4_2
  obtain ⟨c5_0, c5_1, c5_2, y5_0, y5_1, y5_2, m5, rfl, -, -, hy5_0, hy5_1, hy5_2⟩ := open_agg3 Try.underlying25 (by kernel_rfl) (by kernel_rfl) (hval 5 25 v5 rfl rfl) h5
  obtain ⟨x5_0, e, -, wx5_0⟩ := DataW.trod_int Try.underlying3 hy5_0
  simp at e
  subst e
  clear hy5_0
  have b5_0 := bd_i64 wx5_0
  obtain ⟨x5_1, e, -, wx5_1⟩ := DataW.trod_int Try.underlying3 hy5_1
  simp at e
  subst e
  clear hy5_1
  have b5_1 := bd_i64 wx5_1
  obtain ⟨x5_2, e, -, wx5_2⟩ := DataW.trod_int Try.underlying3 hy5_2
  simp at e
  subst e
  clear hy5_2
  have b5_2 := bd_i64 wx5_2
  obtain ⟨c6_0, c6_1, c6_2, y6_0, y6_1, y6_2, m6, rfl, -, -, hy6_0, hy6_1, hy6_2⟩ := open_agg3 Try.underlying25 (by kernel_rfl) (by kernel_rfl) (hval 6 25 v6 rfl rfl) h6
  obtain ⟨x6_0, e, -, wx6_0⟩ := DataW.trod_int Try.underlying3 hy6_0
  simp at e
  subst e
  clear hy6_0
  have b6_0 := bd_i64 wx6_0
  obtain ⟨x6_1, e, -, wx6_1⟩ := DataW.trod_int Try.underlying3 hy6_1
  simp at e
  subst e
  clear hy6_1
  have b6_1 := bd_i64 wx6_1
  obtain ⟨x6_2, e, -, wx6_2⟩ := DataW.trod_int Try.underlying3 hy6_2
  simp at e
  subst e
  clear hy6_2
  have b6_2 := bd_i64 wx6_2
  obtain ⟨c7_0, c7_1, c7_2, y7_0, y7_1, y7_2, m7, rfl, -, -, hy7_0, hy7_1, hy7_2⟩ := open_agg3 Try.underlying25 (by kernel_rfl) (by kernel_rfl) (hval 7 25 v7 rfl rfl) h7
  obtain ⟨x7_0, e, -, wx7_0⟩ := DataW.trod_int Try.underlying3 hy7_0
  simp at e
  subst e
  clear hy7_0
  have b7_0 := bd_i64 wx7_0
  obtain ⟨x7_1, e, -, wx7_1⟩ := DataW.trod_int Try.underlying3 hy7_1
  simp at e
  subst e
  clear hy7_1
  have b7_1 := bd_i64 wx7_1
  obtain ⟨x7_2, e, -, wx7_2⟩ := DataW.trod_int Try.underlying3 hy7_2
  simp at e
  subst e
  clear hy7_2
  have b7_2 := bd_i64 wx7_2
  obtain ⟨c8_0, c8_1, c8_2, y8_0, y8_1, y8_2, m8, rfl, -, -, hy8_0, hy8_1, hy8_2⟩ := open_agg3 Try.underlying25 (by kernel_rfl) (by kernel_rfl) (hval 8 25 v8 rfl rfl) h8
  obtain ⟨x8_0, e, -, wx8_0⟩ := DataW.trod_int Try.underlying3 hy8_0
  simp at e
  subst e
  clear hy8_0
  have b8_0 := bd_i64 wx8_0
  obtain ⟨x8_1, e, -, wx8_1⟩ := DataW.trod_int Try.underlying3 hy8_1
  simp at e
  subst e
  clear hy8_1
  have b8_1 := bd_i64 wx8_1
  obtain ⟨x8_2, e, -, wx8_2⟩ := DataW.trod_int Try.underlying3 hy8_2
  simp at e
  subst e
  clear hy8_2
  have b8_2 := bd_i64 wx8_2
  clear hA0 hval0 hA hargs
  refine (law_moves x0_0 x0_1 x1_0 x1_1 x2_0 x2_1 x3_0 x3_1 x4_0 x4_1 x4_2 x5_0 x5_1 x5_2 x6_0 x6_1 x6_2 x7_0 x7_1 x7_2 x8_0 x8_1 x8_2 W).mono fun e W' ⟨he, hb⟩ => ?_
  subst he
  refine ⟨_, rfl, _, _, _, [], p0 ++ (p1 ++ (p2 ++ (p3 ++ (p4 ++ (p5 ++ (p6 ++ (p7 ++ (p8 ++ [])))))))), [], hW', ?_, ?_, ?_, hb.frame _, fun h => by cases h⟩
  · exact trodAll_mk1 (shut_bool Try.underlying4 true)
  · exact trodAll_cons_mk (k0 W' hb) (trodAll_cons_mk (k1 W' hb) (trodAll_cons_mk (k2 W' hb) (trodAll_cons_mk (k3 W' hb) (trodAll_cons_mk (k4 W' hb) (trodAll_cons_mk (k5 W' hb) (trodAll_cons_mk (k6 W' hb) (trodAll_cons_mk (k7 W' hb) (trodAll_cons_mk (k8 W' hb) (trodAll_mk0)))))))))
  · rfl

theorem signMoves_holds : Rows.SignMovesSaid :=
  OpenClaim.holds_of_wide 6 Try.f6 rfl rfl rfl rfl rfl rfl rfl ⟨rfl, rfl, rfl, rfl, rfl⟩ rfl rfl rfl rfl rfl (by kernel_rfl) Try.func6 (by kernel_rfl)
    (of_decide_eq_true (by kernel_rfl)) (by unfold Func.isWrapper; first | (rw [if_pos (by decide +kernel)]; kernel_rfl) | (rw [if_neg (by decide +kernel)]; exact ⟨rfl, rfl⟩))
    (fun os started H enc _ => lifted_SignMoves os started H enc)

#print axioms signMoves_holds
end Go.Proofs.Yticjljbglimgeaa
