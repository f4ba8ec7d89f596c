/-
 ChartDoes: for every mesh, two ints, a chart and a row of charts, right or not, the law's function returns true, and its arguments read afterwards as they did before; no condition.
-/
import Derived.Test.YtcnbbanpnoigdaaGreatHy
import Derived.Test.YtcnbbanpnoigdaaGreatChCR
import Derived.Test.YtcnbbanpnoigdaaGreatHo
import Derived.Test.YtcnbbanpnoigdaaGreatOpenC
namespace Go.Proofs.YtcnbbanpnoigdaaGreat
open Go.ChangeShapes Go.WideShapes Go.ChangeAt Go.RowKit Go.Joins

set_option maxRecDepth 100000 in
theorem lifted_ChartDoes (os : Os) (started : os.Started) (H : Type) (enc : TypeId × Value → H) :
  ReturnsInHanded {} Tryz.checked os 3 .any (Rows.chartDoesSpec.pre6 enc Tryz.prog Tryz.f3 Rows.chartDoesRow.domain false) (Rows.chartDoesSpec.post enc Tryz.prog Tryz.f3 false true false false) := by
 refine returnsInHanded_of_change (C := Tryz.checked) own started (by kernel_rfl) Tryz.func3
  (ChangeSpec.witness6 (enc := enc) (C := Tryz.checked) false ⟨#[], #[.agg #[.slice none 0 0, .slice none 0 0, .slice none 0 0, .slice none 0 0], .int .i64 0, .int .i64 0, .agg #[.int .i64 0, .int .i64 0, .slice none 0 0], .slice none 0 0], []⟩ 8 (by kernel_rfl) (by kernel_rfl) (by kernel_rfl) (by kernel_rfl)) ?_
 intro W base args ds gs before hval0 hW _ _
 have hval : ∀ (j : Nat) t v, (Tryz.f3).params[j]? = some t → args[j]? = some v → Value.okWide Tryz.prog W .any base t v := hval0;have hW' := hW;obtain ⟨p, q, hA0, hV, rfl, hfz, hnd⟩ := hW;have hA : DataW.TrodAll enc Tryz.prog W 0 (fun _ => true) true (Tryz.f3).params.toList args.toList ds p := hA0;rw [Tryz.params3] at hA hval;obtain ⟨v0, vs0, d0, ds0, p0, q0, hargs, rfl, rfl, h0, r0⟩ := trodAll_cons hA;obtain ⟨v1, vs1, d1, ds1, p1, q1, rfl, rfl, rfl, h1, r1⟩ := trodAll_cons r0;obtain ⟨v2, vs2, d2, ds2, p2, q2, rfl, rfl, rfl, h2, r2⟩ := trodAll_cons r1;obtain ⟨v3, vs3, d3, ds3, p3, q3, rfl, rfl, rfl, h3, r3⟩ := trodAll_cons r2;obtain ⟨v4, vs4, d4, ds4, p4, q4, rfl, rfl, rfl, h4, r4⟩ := trodAll_cons r3;obtain ⟨rfl, rfl, rfl⟩ := trodAll_nil r4;obtain rfl : args = #[v0, v1, v2, v3, v4] := Array.ext' hargs;obtain ⟨rfl, rfl⟩ := trodVars_none hV;have k0 : ∀ W', Below W.heap.size W W' → DataW.Trod enc Tryz.prog W' 0 (fun b => decide (b < W.heap.size)) true 26 v0 d0 p0 := fun W' hb => Below.trod laidOut (by kernel_rfl) (of_decide_eq_true (by kernel_rfl)) h0 hb (fun x hx => hW'.lt x (by simp [hx]));have k1 : ∀ W', Below W.heap.size W W' → DataW.Trod enc Tryz.prog W' 0 (fun b => decide (b < W.heap.size)) true 3 v1 d1 p1 := fun W' hb => Below.trod laidOut (by kernel_rfl) (of_decide_eq_true (by kernel_rfl)) h1 hb (fun x hx => hW'.lt x (by simp [hx]));have k2 : ∀ W', Below W.heap.size W W' → DataW.Trod enc Tryz.prog W' 0 (fun b => decide (b < W.heap.size)) true 3 v2 d2 p2 := fun W' hb => Below.trod laidOut (by kernel_rfl) (of_decide_eq_true (by kernel_rfl)) h2 hb (fun x hx => hW'.lt x (by simp [hx]));have k3 : ∀ W', Below W.heap.size W W' → DataW.Trod enc Tryz.prog W' 0 (fun b => decide (b < W.heap.size)) true 29 v3 d3 p3 := fun W' hb => Below.trod laidOut (by kernel_rfl) (of_decide_eq_true (by kernel_rfl)) h3 hb (fun x hx => hW'.lt x (by simp [hx]));have k4 : ∀ W', Below W.heap.size W W' → DataW.Trod enc Tryz.prog W' 0 (fun b => decide (b < W.heap.size)) true 30 v4 d4 p4 := fun W' hb => Below.trod laidOut (by kernel_rfl) (of_decide_eq_true (by kernel_rfl)) h4 hb (fun x hx => hW'.lt x (by simp [hx]))
 obtain ⟨a0_1, a0_2, a0_3, a0_4, n0_1, n0_2, n0_3, n0_4, c0_1, c0_2, c0_3, c0_4, FV0, FT0, FN0, FC0, rfl, M0, Z0, K0⟩ := open_mesh (hval 0 26 v0 rfl rfl) h0;obtain ⟨x1, rfl, -, -, wx1⟩ := open_int Tryz.underlying3 (hval 1 3 v1 rfl rfl) h1;have b1 := bd_i64 wx1;obtain ⟨x2, rfl, -, -, wx2⟩ := open_int Tryz.underlying3 (hval 2 3 v2 rfl rfl) h2;have b2 := bd_i64 wx2;obtain ⟨x3, y3, a3, n3, c3, L3, rfl, nA_3, lc_3, mc_3, R3, -, -, K3⟩ := open_chart (hval 3 29 v3 rfl rfl) h3;obtain ⟨a4, n4, c4, L4, rfl, nA_4, lc_4, mc_4, R4, K4⟩ := open_charts (hval 4 30 v4 rfl rfl) h4;clear hA0 hval0 hA hargs
 refine (law_does chart_ok charted_any a0_1 a0_2 a0_3 a0_4 n0_1 n0_2 n0_3 n0_4 c0_1 c0_2 c0_3 c0_4 FV0 FT0 FN0 FC0 x1 x2 x3 y3 a3 n3 c3 L3 a4 n4 c4 L4 W M0.1 Z0 R3 R4).mono fun e W' ⟨he, hb⟩ => ?_
 subst he
 refine ⟨_, rfl, _, _, _, [], p0 ++ (p1 ++ (p2 ++ (p3 ++ (p4 ++ [])))), [], hW', ?_, ?_, ?_, hb.frame _, fun h => by cases h⟩
 ·exact trodAll_mk1 (shut_bool Tryz.underlying4 true)
 ·exact trodAll_cons_mk (k0 W' hb) (trodAll_cons_mk (k1 W' hb) (trodAll_cons_mk (k2 W' hb) (trodAll_cons_mk (k3 W' hb) (trodAll_cons_mk (k4 W' hb) (trodAll_mk0)))))
 ·rfl

theorem chartDoes_holds : Rows.ChartDoesSaid :=
 OpenClaim.holds_of_wide 3 Tryz.f3 rfl rfl rfl rfl rfl rfl rfl ⟨rfl, rfl, rfl, rfl, rfl⟩ rfl rfl rfl rfl rfl (by kernel_rfl) Tryz.func3 (by kernel_rfl)
  (of_decide_eq_true (by kernel_rfl)) (by unfold Func.isWrapper; first | (rw [if_pos (by decide +kernel)]; kernel_rfl) | (rw [if_neg (by decide +kernel)]; exact ⟨rfl, rfl⟩))
  (fun os started H enc _ => lifted_ChartDoes os started H enc)

#print axioms chartDoes_holds
end Go.Proofs.YtcnbbanpnoigdaaGreat
