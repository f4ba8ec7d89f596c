/-
  The document's rows of chapter 11, as the law's function neared asks them. (gen/NrN.py)
-/
import Derived.Test.YtllamakemgogaaaNrF
import Derived.Test.YtllamakemgogaaaNrI
import Derived.Test.YtllamakemgogaaaGaH
namespace Go.Proofs.Ytllamakemgogaaa
open Go.RowKit

set_option maxRecDepth 100000 in
set_option maxHeartbeats 8000000 in
theorem neared_any (w : World) : Calls Try.prog 16 #[] w fun e w' => e = .returned (.bool true) ∧ Below w.heap.size w w' := by
  have HB := Lib.hid (Below.refl w.heap.size w)
  have E1 : Hid (∀ W, Calls Try.prog 8 #[.agg #[.int .i64 2, .int .i64 3], .agg #[.int .i64 0, .int .i64 0], .agg #[.int .i64 4, .int .i64 0]] W fun e' w' => e' = .returned (.tuple #[.agg #[.int .i64 2, .int .i64 0], .int .i64 2, .agg #[.int .i64 144, .int .i64 16], .int .i64 0]) ∧ Below W.heap.size W w') := Lib.hid (fun W => edge_any 2 3 0 0 4 0 true (by decide) W)
  have E2 : Hid (∀ W, Calls Try.prog 8 #[.agg #[.int .i64 (-1), .int .i64 1], .agg #[.int .i64 0, .int .i64 0], .agg #[.int .i64 4, .int .i64 0]] W fun e' w' => e' = .returned (.tuple #[.agg #[.int .i64 0, .int .i64 0], .int .i64 0, .agg #[.int .i64 2, .int .i64 1], .int .i64 0]) ∧ Below W.heap.size W w') := Lib.hid (fun W => edge_any (-1) 1 0 0 4 0 true (by decide) W)
  have C1 : Hid (∀ W, Calls Try.prog 10 #[.agg #[.int .i64 3, .int .i64 3], .agg #[.int .i64 0, .int .i64 0, .int .i64 4, .int .i64 0, .int .i64 0, .int .i64 4]] W fun e' w' => e' = .returned (.tuple #[.agg #[.int .i64 2, .int .i64 2], .agg #[.int .i64 64, .int .i64 32], .int .i64 0]) ∧ Below W.heap.size W w') := Lib.hid (fun W => closest_any 3 3 0 0 4 0 0 4 W)
  have W1 : Hid (∀ W, Calls Try.prog 12 #[.agg #[.int .i64 1, .int .i64 1], .agg #[.int .i64 0, .int .i64 0, .int .i64 4, .int .i64 0, .int .i64 0, .int .i64 4]] W fun e' w' => e' = .returned (.tuple #[.agg #[.int .i64 8, .int .i64 4, .int .i64 4], .int .i64 16, .int .i64 0]) ∧ Below W.heap.size W w') := Lib.hid (fun W => weights_any 1 1 0 0 4 0 0 4 W)
  have C2 : Hid (∀ W, Calls Try.prog 10 #[.agg #[.int .i64 0, .int .i64 0], .agg #[.int .i64 0, .int .i64 0, .int .i64 0, .int .i64 0, .int .i64 0, .int .i64 0]] W fun e' w' => e' = .returned (.tuple #[.agg #[.int .i64 0, .int .i64 0], .agg #[.int .i64 0, .int .i64 0], .int .i64 1]) ∧ Below W.heap.size W w') := Lib.hid (fun W => closest_any 0 0 0 0 0 0 0 0 W)
  have s0 : q2 2 0 2 0 = true := by decide
  have s1 : q2 144 16 144 16 = true := by decide
  have s2 : q2 0 0 0 0 = true := by decide
  have s3 : q2 2 1 2 1 = true := by decide
  have s4 : q2 2 2 2 2 = true := by decide
  have s5 : q2 64 32 64 32 = true := by decide
  go_enter Try.func16, Try.ntmps16
  go_upto_region 2 with fail
  have hba := below_new1 w (.cells #[.int .i64 0, .int .i64 0, .int .i64 4, .int .i64 0, .int .i64 0, .int .i64 4] 24)
  have za : (w.alloc (.cells #[.int .i64 0, .int .i64 0, .int .i64 4, .int .i64 0, .int .i64 0, .int .i64 4] 24)).heap.size = w.heap.size + 1 := by simp
  have HB := Lib.hid hba
  have ka := Lib.hid (Lok.new w 24 #[.int .i64 0, .int .i64 0, .int .i64 4, .int .i64 0, .int .i64 0, .int .i64 4])
  clear hba
  generalize w.alloc (.cells #[.int .i64 0, .int .i64 0, .int .i64 4, .int .i64 0, .int .i64 0, .int .i64 4] 24) = Va at *
  clear za
  go_wp2_with fail
  (((with_reducible refine (E1.out _).mono ?_); rintro e w1 ⟨rfl, hb1⟩); replace HB := Lib.hid (HB.out.trans (hb1.mono HB.out.size)); replace ka := Lib.hid (ka.out.keep hb1); clear hb1)
  go_upto_region 3 with fail
  have hbb := below_new1 w1 (.cells #[.int .i64 2, .int .i64 0] 23)
  replace ka := Lib.hid (ka.out.keep hbb)
  have zb : (w1.alloc (.cells #[.int .i64 2, .int .i64 0] 23)).heap.size = w1.heap.size + 1 := by simp
  replace HB := Lib.hid (HB.out.trans (hbb.mono HB.out.size))
  have kb := Lib.hid (Lok.new w1 23 #[.int .i64 2, .int .i64 0])
  clear hbb
  generalize w1.alloc (.cells #[.int .i64 2, .int .i64 0] 23) = Vb at *
  have hbc := below_new1 Vb (.cells #[.int .i64 144, .int .i64 16] 29)
  replace ka := Lib.hid (ka.out.keep hbc)
  replace kb := Lib.hid (kb.out.keep hbc)
  have zc : (Vb.alloc (.cells #[.int .i64 144, .int .i64 16] 29)).heap.size = Vb.heap.size + 1 := by simp
  replace HB := Lib.hid (HB.out.trans (hbc.mono HB.out.size))
  have kc := Lib.hid (Lok.new Vb 29 #[.int .i64 144, .int .i64 16])
  clear hbc
  generalize Vb.alloc (.cells #[.int .i64 144, .int .i64 16] 29) = Vc at *
  rw [zb] at kc
  clear zb zc
  generalize w1.heap.size = gb at *
  go_wp2_with fail
  (((with_reducible refine (E2.out _).mono ?_); rintro e w2 ⟨rfl, hb2⟩); replace HB := Lib.hid (HB.out.trans (hb2.mono HB.out.size)); replace ka := Lib.hid (ka.out.keep hb2); replace kb := Lib.hid (kb.out.keep hb2); replace kc := Lib.hid (kc.out.keep hb2); clear hb2)
  go_upto_region 4 with fail
  have hbd := below_new1 w2 (.cells #[.int .i64 0, .int .i64 0] 23)
  replace ka := Lib.hid (ka.out.keep hbd)
  replace kb := Lib.hid (kb.out.keep hbd)
  replace kc := Lib.hid (kc.out.keep hbd)
  have zd : (w2.alloc (.cells #[.int .i64 0, .int .i64 0] 23)).heap.size = w2.heap.size + 1 := by simp
  replace HB := Lib.hid (HB.out.trans (hbd.mono HB.out.size))
  have kd := Lib.hid (Lok.new w2 23 #[.int .i64 0, .int .i64 0])
  clear hbd
  generalize w2.alloc (.cells #[.int .i64 0, .int .i64 0] 23) = Vd at *
  have hbe := below_new1 Vd (.cells #[.int .i64 2, .int .i64 1] 29)
  replace ka := Lib.hid (ka.out.keep hbe)
  replace kb := Lib.hid (kb.out.keep hbe)
  replace kc := Lib.hid (kc.out.keep hbe)
  replace kd := Lib.hid (kd.out.keep hbe)
  have ze : (Vd.alloc (.cells #[.int .i64 2, .int .i64 1] 29)).heap.size = Vd.heap.size + 1 := by simp
  replace HB := Lib.hid (HB.out.trans (hbe.mono HB.out.size))
  have ke := Lib.hid (Lok.new Vd 29 #[.int .i64 2, .int .i64 1])
  clear hbe
  generalize Vd.alloc (.cells #[.int .i64 2, .int .i64 1] 29) = Ve at *
  rw [zd] at ke
  clear zd ze
  generalize w2.heap.size = gd at *
  have a0 := ka.out.cell (i := 0) rfl
  have a1 := ka.out.cell (i := 1) rfl
  have a2 := ka.out.cell (i := 2) rfl
  have a3 := ka.out.cell (i := 3) rfl
  have a4 := ka.out.cell (i := 4) rfl
  have a5 := ka.out.cell (i := 5) rfl
  go_wp2_with fail
  clear a0 a1 a2 a3 a4 a5
  (((with_reducible refine (C1.out _).mono ?_); rintro e w3 ⟨rfl, hb3⟩); replace HB := Lib.hid (HB.out.trans (hb3.mono HB.out.size)); replace ka := Lib.hid (ka.out.keep hb3); replace kb := Lib.hid (kb.out.keep hb3); replace kc := Lib.hid (kc.out.keep hb3); replace kd := Lib.hid (kd.out.keep hb3); replace ke := Lib.hid (ke.out.keep hb3); clear hb3)
  go_upto_region 5 with fail
  have hbf := below_new1 w3 (.cells #[.int .i64 2, .int .i64 2] 23)
  replace ka := Lib.hid (ka.out.keep hbf)
  replace kb := Lib.hid (kb.out.keep hbf)
  replace kc := Lib.hid (kc.out.keep hbf)
  replace kd := Lib.hid (kd.out.keep hbf)
  replace ke := Lib.hid (ke.out.keep hbf)
  have zf : (w3.alloc (.cells #[.int .i64 2, .int .i64 2] 23)).heap.size = w3.heap.size + 1 := by simp
  replace HB := Lib.hid (HB.out.trans (hbf.mono HB.out.size))
  have kf := Lib.hid (Lok.new w3 23 #[.int .i64 2, .int .i64 2])
  clear hbf
  generalize w3.alloc (.cells #[.int .i64 2, .int .i64 2] 23) = Vf at *
  have hbg := below_new1 Vf (.cells #[.int .i64 64, .int .i64 32] 29)
  replace ka := Lib.hid (ka.out.keep hbg)
  replace kb := Lib.hid (kb.out.keep hbg)
  replace kc := Lib.hid (kc.out.keep hbg)
  replace kd := Lib.hid (kd.out.keep hbg)
  replace ke := Lib.hid (ke.out.keep hbg)
  replace kf := Lib.hid (kf.out.keep hbg)
  have zg : (Vf.alloc (.cells #[.int .i64 64, .int .i64 32] 29)).heap.size = Vf.heap.size + 1 := by simp
  replace HB := Lib.hid (HB.out.trans (hbg.mono HB.out.size))
  have kg := Lib.hid (Lok.new Vf 29 #[.int .i64 64, .int .i64 32])
  clear hbg
  generalize Vf.alloc (.cells #[.int .i64 64, .int .i64 32] 29) = Vg at *
  rw [zf] at kg
  clear zf zg
  generalize w3.heap.size = gf at *
  have a0 := ka.out.cell (i := 0) rfl
  have a1 := ka.out.cell (i := 1) rfl
  have a2 := ka.out.cell (i := 2) rfl
  have a3 := ka.out.cell (i := 3) rfl
  have a4 := ka.out.cell (i := 4) rfl
  have a5 := ka.out.cell (i := 5) rfl
  go_wp2_with fail
  clear a0 a1 a2 a3 a4 a5
  (((with_reducible refine (W1.out _).mono ?_); rintro e w4 ⟨rfl, hb4⟩); replace HB := Lib.hid (HB.out.trans (hb4.mono HB.out.size)); replace ka := Lib.hid (ka.out.keep hb4); replace kb := Lib.hid (kb.out.keep hb4); replace kc := Lib.hid (kc.out.keep hb4); replace kd := Lib.hid (kd.out.keep hb4); replace ke := Lib.hid (ke.out.keep hb4); replace kf := Lib.hid (kf.out.keep hb4); replace kg := Lib.hid (kg.out.keep hb4); clear hb4)
  go_upto_region 6 with fail
  have hbm := below_new1 w4 (.cells #[.int .i64 8, .int .i64 4, .int .i64 4] 35)
  replace ka := Lib.hid (ka.out.keep hbm)
  replace kb := Lib.hid (kb.out.keep hbm)
  replace kc := Lib.hid (kc.out.keep hbm)
  replace kd := Lib.hid (kd.out.keep hbm)
  replace ke := Lib.hid (ke.out.keep hbm)
  replace kf := Lib.hid (kf.out.keep hbm)
  replace kg := Lib.hid (kg.out.keep hbm)
  have zm : (w4.alloc (.cells #[.int .i64 8, .int .i64 4, .int .i64 4] 35)).heap.size = w4.heap.size + 1 := by simp
  replace HB := Lib.hid (HB.out.trans (hbm.mono HB.out.size))
  have km := Lib.hid (Lok.new w4 35 #[.int .i64 8, .int .i64 4, .int .i64 4])
  clear hbm
  generalize w4.alloc (.cells #[.int .i64 8, .int .i64 4, .int .i64 4] 35) = Vm at *
  clear zm
  generalize w4.heap.size = gm at *
  go_wp2_with fail
  (((with_reducible refine (C2.out _).mono ?_); rintro e w5 ⟨rfl, hb5⟩); replace HB := Lib.hid (HB.out.trans (hb5.mono HB.out.size)); replace ka := Lib.hid (ka.out.keep hb5); replace kb := Lib.hid (kb.out.keep hb5); replace kc := Lib.hid (kc.out.keep hb5); replace kd := Lib.hid (kd.out.keep hb5); replace ke := Lib.hid (ke.out.keep hb5); replace kf := Lib.hid (kf.out.keep hb5); replace kg := Lib.hid (kg.out.keep hb5); replace km := Lib.hid (km.out.keep hb5); clear hb5)
  go_upto_region 7 with fail
  have hbx := below_new1 w5 (.cells #[.int .i64 0, .int .i64 0] 23)
  replace ka := Lib.hid (ka.out.keep hbx)
  replace kb := Lib.hid (kb.out.keep hbx)
  replace kc := Lib.hid (kc.out.keep hbx)
  replace kd := Lib.hid (kd.out.keep hbx)
  replace ke := Lib.hid (ke.out.keep hbx)
  replace kf := Lib.hid (kf.out.keep hbx)
  replace kg := Lib.hid (kg.out.keep hbx)
  replace km := Lib.hid (km.out.keep hbx)
  have zx : (w5.alloc (.cells #[.int .i64 0, .int .i64 0] 23)).heap.size = w5.heap.size + 1 := by simp
  replace HB := Lib.hid (HB.out.trans (hbx.mono HB.out.size))
  have kx := Lib.hid (Lok.new w5 23 #[.int .i64 0, .int .i64 0])
  clear hbx
  generalize w5.alloc (.cells #[.int .i64 0, .int .i64 0] 23) = Vx at *
  have hby := below_new1 Vx (.cells #[.int .i64 0, .int .i64 0] 29)
  replace ka := Lib.hid (ka.out.keep hby)
  replace kb := Lib.hid (kb.out.keep hby)
  replace kc := Lib.hid (kc.out.keep hby)
  replace kd := Lib.hid (kd.out.keep hby)
  replace ke := Lib.hid (ke.out.keep hby)
  replace kf := Lib.hid (kf.out.keep hby)
  replace kg := Lib.hid (kg.out.keep hby)
  replace km := Lib.hid (km.out.keep hby)
  have zy : (Vx.alloc (.cells #[.int .i64 0, .int .i64 0] 29)).heap.size = Vx.heap.size + 1 := by simp
  replace HB := Lib.hid (HB.out.trans (hby.mono HB.out.size))
  have ky := Lib.hid (Lok.new Vx 29 #[.int .i64 0, .int .i64 0])
  clear hby
  generalize Vx.alloc (.cells #[.int .i64 0, .int .i64 0] 29) = Vy at *
  clear zx zy kx ky E1 E2 C1 C2 W1
  have b0 := kb.out.cell (i := 0) rfl
  have b1 := kb.out.cell (i := 1) rfl
  have c0 := kc.out.cell (i := 0) rfl
  have c1 := kc.out.cell (i := 1) rfl
  have d0 := kd.out.cell (i := 0) rfl
  have d1 := kd.out.cell (i := 1) rfl
  have e0 := ke.out.cell (i := 0) rfl
  have e1 := ke.out.cell (i := 1) rfl
  have f0 := kf.out.cell (i := 0) rfl
  have f1 := kf.out.cell (i := 1) rfl
  have g0 := kg.out.cell (i := 0) rfl
  have g1 := kg.out.cell (i := 1) rfl
  have m0 := km.out.cell (i := 0) rfl
  have m1 := km.out.cell (i := 1) rfl
  have m2 := km.out.cell (i := 2) rfl
  go_wp2
  go_ret
  exact ⟨rfl, HB.out⟩
end Go.Proofs.Ytllamakemgogaaa
