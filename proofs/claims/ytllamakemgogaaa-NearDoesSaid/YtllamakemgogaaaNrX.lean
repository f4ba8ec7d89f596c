/-
  NearDoes, walked. (gen/NrX.py)
-/
import Derived.Test.YtllamakemgogaaaNrN
import Derived.Test.YtllamakemgogaaaNrH
import Derived.Test.YtllamakemgogaaaNrL
namespace Go.Proofs.Ytllamakemgogaaa
open Go.RowKit

set_option maxRecDepth 100000 in
set_option maxHeartbeats 16000000 in
theorem law_does (x y ea1 ea2 eb1 eb2 a1 a2 b1 b2 c1 c2 qa1 qa2 qa3 qb1 qb2 qb3 qc1 qc2 qc3 : Int) (w : World) :
    Calls Try.prog 3 #[.agg #[.int .i64 x, .int .i64 y], .agg #[.int .i64 ea1, .int .i64 ea2], .agg #[.int .i64 eb1, .int .i64 eb2], .agg #[.int .i64 a1, .int .i64 a2, .int .i64 b1, .int .i64 b2, .int .i64 c1, .int .i64 c2], .agg #[.int .i64 qa1, .int .i64 qa2, .int .i64 qa3, .int .i64 qb1, .int .i64 qb2, .int .i64 qb3, .int .i64 qc1, .int .i64 qc2, .int .i64 qc3]] w fun e' w' => e' = .returned (.bool true) ∧ Below w.heap.size w w' := by
  have HB := Lib.hid (Below.refl w.heap.size w)
  have ME := Lib.hid (fun W => neared_any W)
  obtain ⟨te, hte⟩ : ∃ v, (s2 x y && s2 ea1 ea2 && s2 eb1 eb2) = v := ⟨_, rfl⟩
  have E1 := Lib.hid (fun W => edge_any x y ea1 ea2 eb1 eb2 te hte W)
  have E2 := Lib.hid (fun W => redge_any x y ea1 ea2 eb1 eb2 te hte W)
  have C1 := Lib.hid (fun W => closest_any x y a1 a2 b1 b2 c1 c2 W)
  have C2 := Lib.hid (fun W => rclosest_any x y a1 a2 b1 b2 c1 c2 W)
  have W1 := Lib.hid (fun W => weights_any x y a1 a2 b1 b2 c1 c2 W)
  have W2 := Lib.hid (fun W => rweights_any x y a1 a2 b1 b2 c1 c2 W)
  have L1 := Lib.hid (fun W => lift_any x y a1 a2 b1 b2 c1 c2 qa1 qa2 qa3 qb1 qb2 qb3 qc1 qc2 qc3 W)
  have L2 := Lib.hid (fun W => rlift_any x y a1 a2 b1 b2 c1 c2 qa1 qa2 qa3 qb1 qb2 qb3 qc1 qc2 qc3 W)
  clear hte
  generalize vF te (fX x y ea1 ea2 eb1 eb2) = eu at *
  generalize vF te (fY x y ea1 ea2 eb1 eb2) = ev at *
  generalize vF te (fK x y ea1 ea2 eb1 eb2) = ek at *
  generalize vF te (fN x y ea1 ea2 eb1 eb2) = en at *
  generalize vF te (fD x y ea1 ea2 eb1 eb2) = ed at *
  generalize rE te = ee at *
  generalize clV (s2 x y) (rT a1 a2 b1 b2 c1 c2) (r1 a1 a2 b1 b2 c1 c2 x y) x (nrS x y a1 a2 b1 b2 c1 c2 fX) = cu at *
  generalize clV (s2 x y) (rT a1 a2 b1 b2 c1 c2) (r1 a1 a2 b1 b2 c1 c2 x y) y (nrS x y a1 a2 b1 b2 c1 c2 fY) = cv at *
  generalize clV (s2 x y) (rT a1 a2 b1 b2 c1 c2) (r1 a1 a2 b1 b2 c1 c2 x y) 0 (nrS x y a1 a2 b1 b2 c1 c2 fN) = cn at *
  generalize clV (s2 x y) (rT a1 a2 b1 b2 c1 c2) (r1 a1 a2 b1 b2 c1 c2 x y) 1 (nrS x y a1 a2 b1 b2 c1 c2 fD) = cd at *
  generalize lV (s3 qa1 qa2 qa3 && s3 qb1 qb2 qb3 && s3 qc1 qc2 qc3) (s2 x y) (rT a1 a2 b1 b2 c1 c2) (lf (wA x y a1 a2 b1 b2 c1 c2) (wB x y a1 a2 b1 b2 c1 c2) (wC x y a1 a2 b1 b2 c1 c2) (wW a1 a2 b1 b2 c1 c2) qa1 qb1 qc1) = lv0 at *
  generalize lV (s3 qa1 qa2 qa3 && s3 qb1 qb2 qb3 && s3 qc1 qc2 qc3) (s2 x y) (rT a1 a2 b1 b2 c1 c2) (lf (wA x y a1 a2 b1 b2 c1 c2) (wB x y a1 a2 b1 b2 c1 c2) (wC x y a1 a2 b1 b2 c1 c2) (wW a1 a2 b1 b2 c1 c2) qa2 qb2 qc2) = lv1 at *
  generalize lV (s3 qa1 qa2 qa3 && s3 qb1 qb2 qb3 && s3 qc1 qc2 qc3) (s2 x y) (rT a1 a2 b1 b2 c1 c2) (lf (wA x y a1 a2 b1 b2 c1 c2) (wB x y a1 a2 b1 b2 c1 c2) (wC x y a1 a2 b1 b2 c1 c2) (wW a1 a2 b1 b2 c1 c2) qa3 qb3 qc3) = lv2 at *
  generalize lE (s3 qa1 qa2 qa3 && s3 qb1 qb2 qb3 && s3 qc1 qc2 qc3) (s2 x y) (rT a1 a2 b1 b2 c1 c2) = le at *
  generalize gV (s2 x y) (rT a1 a2 b1 b2 c1 c2) (wA x y a1 a2 b1 b2 c1 c2) = g0 at *
  generalize gV (s2 x y) (rT a1 a2 b1 b2 c1 c2) (wB x y a1 a2 b1 b2 c1 c2) = g1 at *
  generalize gV (s2 x y) (rT a1 a2 b1 b2 c1 c2) (wC x y a1 a2 b1 b2 c1 c2) = g2 at *
  generalize gV (s2 x y) (rT a1 a2 b1 b2 c1 c2) (wW a1 a2 b1 b2 c1 c2) = gn at *
  generalize iE (s2 x y) (rT a1 a2 b1 b2 c1 c2) = ie at *
  have z1 := q2_self eu ev
  have z2 := q2_self en ed
  have z3 := q2_self cu cv
  have z4 := q2_self cn cd
  have z5 := q3_self lv0 lv1 lv2
  go_enter Try.func3, Try.ntmps3
  go_upto_region 1 with fail
  have hbp := below_new1 w (.cells #[.int .i64 x, .int .i64 y] 23)
  have zp : (w.alloc (.cells #[.int .i64 x, .int .i64 y] 23)).heap.size = w.heap.size + 1 := by simp
  have HB := Lib.hid hbp
  have kp := Lib.hid (Lok.new w 23 #[.int .i64 x, .int .i64 y])
  clear hbp
  generalize w.alloc (.cells #[.int .i64 x, .int .i64 y] 23) = Vp at *
  have hba := below_new1 Vp (.cells #[.int .i64 ea1, .int .i64 ea2] 23)
  replace kp := Lib.hid (kp.out.keep hba)
  have za : (Vp.alloc (.cells #[.int .i64 ea1, .int .i64 ea2] 23)).heap.size = Vp.heap.size + 1 := by simp
  replace HB := Lib.hid (HB.out.trans (hba.mono HB.out.size))
  have ka := Lib.hid (Lok.new Vp 23 #[.int .i64 ea1, .int .i64 ea2])
  clear hba
  generalize Vp.alloc (.cells #[.int .i64 ea1, .int .i64 ea2] 23) = Va at *
  rw [zp] at ka za
  have hbb := below_new1 Va (.cells #[.int .i64 eb1, .int .i64 eb2] 23)
  replace kp := Lib.hid (kp.out.keep hbb)
  replace ka := Lib.hid (ka.out.keep hbb)
  have zb : (Va.alloc (.cells #[.int .i64 eb1, .int .i64 eb2] 23)).heap.size = Va.heap.size + 1 := by simp
  replace HB := Lib.hid (HB.out.trans (hbb.mono HB.out.size))
  have kb := Lib.hid (Lok.new Va 23 #[.int .i64 eb1, .int .i64 eb2])
  clear hbb
  generalize Va.alloc (.cells #[.int .i64 eb1, .int .i64 eb2] 23) = Vb at *
  rw [za] at kb zb
  have hbt := below_new1 Vb (.cells #[.int .i64 a1, .int .i64 a2, .int .i64 b1, .int .i64 b2, .int .i64 c1, .int .i64 c2] 24)
  replace kp := Lib.hid (kp.out.keep hbt)
  replace ka := Lib.hid (ka.out.keep hbt)
  replace kb := Lib.hid (kb.out.keep hbt)
  have zt : (Vb.alloc (.cells #[.int .i64 a1, .int .i64 a2, .int .i64 b1, .int .i64 b2, .int .i64 c1, .int .i64 c2] 24)).heap.size = Vb.heap.size + 1 := by simp
  replace HB := Lib.hid (HB.out.trans (hbt.mono HB.out.size))
  have kt := Lib.hid (Lok.new Vb 24 #[.int .i64 a1, .int .i64 a2, .int .i64 b1, .int .i64 b2, .int .i64 c1, .int .i64 c2])
  clear hbt
  generalize Vb.alloc (.cells #[.int .i64 a1, .int .i64 a2, .int .i64 b1, .int .i64 b2, .int .i64 c1, .int .i64 c2] 24) = Vt at *
  rw [zb] at kt zt
  have hbs := below_new1 Vt (.cells #[.int .i64 qa1, .int .i64 qa2, .int .i64 qa3, .int .i64 qb1, .int .i64 qb2, .int .i64 qb3, .int .i64 qc1, .int .i64 qc2, .int .i64 qc3] 27)
  replace kp := Lib.hid (kp.out.keep hbs)
  replace ka := Lib.hid (ka.out.keep hbs)
  replace kb := Lib.hid (kb.out.keep hbs)
  replace kt := Lib.hid (kt.out.keep hbs)
  have zs : (Vt.alloc (.cells #[.int .i64 qa1, .int .i64 qa2, .int .i64 qa3, .int .i64 qb1, .int .i64 qb2, .int .i64 qb3, .int .i64 qc1, .int .i64 qc2, .int .i64 qc3] 27)).heap.size = Vt.heap.size + 1 := by simp
  replace HB := Lib.hid (HB.out.trans (hbs.mono HB.out.size))
  have ks := Lib.hid (Lok.new Vt 27 #[.int .i64 qa1, .int .i64 qa2, .int .i64 qa3, .int .i64 qb1, .int .i64 qb2, .int .i64 qb3, .int .i64 qc1, .int .i64 qc2, .int .i64 qc3])
  clear hbs
  generalize Vt.alloc (.cells #[.int .i64 qa1, .int .i64 qa2, .int .i64 qa3, .int .i64 qb1, .int .i64 qb2, .int .i64 qb3, .int .i64 qc1, .int .i64 qc2, .int .i64 qc3] 27) = Vs at *
  rw [zt] at ks
  clear zp za zb zt zs
  have p0 := kp.out.cell (i := 0) rfl
  have p1 := kp.out.cell (i := 1) rfl
  have a0 := ka.out.cell (i := 0) rfl
  have a1 := ka.out.cell (i := 1) rfl
  have b0 := kb.out.cell (i := 0) rfl
  have b1 := kb.out.cell (i := 1) rfl
  go_wp2_with fail
  clear p0 p1 a0 a1 b0 b1
  (((with_reducible refine (E1.out _).mono ?_); rintro e w1 ⟨rfl, hb1⟩); replace HB := Lib.hid (HB.out.trans (hb1.mono HB.out.size)); replace kp := Lib.hid (kp.out.keep hb1); replace ka := Lib.hid (ka.out.keep hb1); replace kb := Lib.hid (kb.out.keep hb1); replace kt := Lib.hid (kt.out.keep hb1); replace ks := Lib.hid (ks.out.keep hb1); clear hb1)
  clear E1
  go_upto_region 2 with fail
  have hbc := below_new1 w1 (.cells #[.int .i64 eu, .int .i64 ev] 23)
  replace kp := Lib.hid (kp.out.keep hbc)
  replace ka := Lib.hid (ka.out.keep hbc)
  replace kb := Lib.hid (kb.out.keep hbc)
  replace kt := Lib.hid (kt.out.keep hbc)
  replace ks := Lib.hid (ks.out.keep hbc)
  have zc : (w1.alloc (.cells #[.int .i64 eu, .int .i64 ev] 23)).heap.size = w1.heap.size + 1 := by simp
  replace HB := Lib.hid (HB.out.trans (hbc.mono HB.out.size))
  have kc := Lib.hid (Lok.new w1 23 #[.int .i64 eu, .int .i64 ev])
  clear hbc
  generalize w1.alloc (.cells #[.int .i64 eu, .int .i64 ev] 23) = Vc at *
  have hbd := below_new1 Vc (.cells #[.int .i64 en, .int .i64 ed] 29)
  replace kp := Lib.hid (kp.out.keep hbd)
  replace ka := Lib.hid (ka.out.keep hbd)
  replace kb := Lib.hid (kb.out.keep hbd)
  replace kt := Lib.hid (kt.out.keep hbd)
  replace ks := Lib.hid (ks.out.keep hbd)
  replace kc := Lib.hid (kc.out.keep hbd)
  have zd : (Vc.alloc (.cells #[.int .i64 en, .int .i64 ed] 29)).heap.size = Vc.heap.size + 1 := by simp
  replace HB := Lib.hid (HB.out.trans (hbd.mono HB.out.size))
  have kd := Lib.hid (Lok.new Vc 29 #[.int .i64 en, .int .i64 ed])
  clear hbd
  generalize Vc.alloc (.cells #[.int .i64 en, .int .i64 ed] 29) = Vd at *
  rw [zc] at kd
  clear zc zd
  generalize w1.heap.size = gc at *
  have p0 := kp.out.cell (i := 0) rfl
  have p1 := kp.out.cell (i := 1) rfl
  have a0 := ka.out.cell (i := 0) rfl
  have a1 := ka.out.cell (i := 1) rfl
  have b0 := kb.out.cell (i := 0) rfl
  have b1 := kb.out.cell (i := 1) rfl
  go_wp2_with fail
  clear p0 p1 a0 a1 b0 b1
  (((with_reducible refine (E2.out _).mono ?_); rintro e w2 ⟨rfl, hb2⟩); replace HB := Lib.hid (HB.out.trans (hb2.mono HB.out.size)); replace kp := Lib.hid (kp.out.keep hb2); replace ka := Lib.hid (ka.out.keep hb2); replace kb := Lib.hid (kb.out.keep hb2); replace kt := Lib.hid (kt.out.keep hb2); replace ks := Lib.hid (ks.out.keep hb2); replace kc := Lib.hid (kc.out.keep hb2); replace kd := Lib.hid (kd.out.keep hb2); clear hb2)
  clear E2
  go_upto_region 3 with fail
  have hbe := below_new1 w2 (.cells #[.int .i64 eu, .int .i64 ev] 23)
  replace kp := Lib.hid (kp.out.keep hbe)
  replace ka := Lib.hid (ka.out.keep hbe)
  replace kb := Lib.hid (kb.out.keep hbe)
  replace kt := Lib.hid (kt.out.keep hbe)
  replace ks := Lib.hid (ks.out.keep hbe)
  replace kc := Lib.hid (kc.out.keep hbe)
  replace kd := Lib.hid (kd.out.keep hbe)
  have ze : (w2.alloc (.cells #[.int .i64 eu, .int .i64 ev] 23)).heap.size = w2.heap.size + 1 := by simp
  replace HB := Lib.hid (HB.out.trans (hbe.mono HB.out.size))
  have ke := Lib.hid (Lok.new w2 23 #[.int .i64 eu, .int .i64 ev])
  clear hbe
  generalize w2.alloc (.cells #[.int .i64 eu, .int .i64 ev] 23) = Ve at *
  have hbf := below_new1 Ve (.cells #[.int .i64 en, .int .i64 ed] 29)
  replace kp := Lib.hid (kp.out.keep hbf)
  replace ka := Lib.hid (ka.out.keep hbf)
  replace kb := Lib.hid (kb.out.keep hbf)
  replace kt := Lib.hid (kt.out.keep hbf)
  replace ks := Lib.hid (ks.out.keep hbf)
  replace kc := Lib.hid (kc.out.keep hbf)
  replace kd := Lib.hid (kd.out.keep hbf)
  replace ke := Lib.hid (ke.out.keep hbf)
  have zf : (Ve.alloc (.cells #[.int .i64 en, .int .i64 ed] 29)).heap.size = Ve.heap.size + 1 := by simp
  replace HB := Lib.hid (HB.out.trans (hbf.mono HB.out.size))
  have kf := Lib.hid (Lok.new Ve 29 #[.int .i64 en, .int .i64 ed])
  clear hbf
  generalize Ve.alloc (.cells #[.int .i64 en, .int .i64 ed] 29) = Vf at *
  rw [ze] at kf
  clear ze zf
  generalize w2.heap.size = ge at *
  clear ka kb
  have p0 := kp.out.cell (i := 0) rfl
  have p1 := kp.out.cell (i := 1) rfl
  have t0 := kt.out.cell (i := 0) rfl
  have t1 := kt.out.cell (i := 1) rfl
  have t2 := kt.out.cell (i := 2) rfl
  have t3 := kt.out.cell (i := 3) rfl
  have t4 := kt.out.cell (i := 4) rfl
  have t5 := kt.out.cell (i := 5) rfl
  go_wp2_with fail
  clear p0 p1 t0 t1 t2 t3 t4 t5
  (((with_reducible refine (C1.out _).mono ?_); rintro e w3 ⟨rfl, hb3⟩); replace HB := Lib.hid (HB.out.trans (hb3.mono HB.out.size)); replace kp := Lib.hid (kp.out.keep hb3); replace kt := Lib.hid (kt.out.keep hb3); replace ks := Lib.hid (ks.out.keep hb3); replace kc := Lib.hid (kc.out.keep hb3); replace kd := Lib.hid (kd.out.keep hb3); replace ke := Lib.hid (ke.out.keep hb3); replace kf := Lib.hid (kf.out.keep hb3); clear hb3)
  clear C1
  go_upto_region 4 with fail
  have hbg := below_new1 w3 (.cells #[.int .i64 cu, .int .i64 cv] 23)
  replace kp := Lib.hid (kp.out.keep hbg)
  replace kt := Lib.hid (kt.out.keep hbg)
  replace ks := Lib.hid (ks.out.keep hbg)
  replace kc := Lib.hid (kc.out.keep hbg)
  replace kd := Lib.hid (kd.out.keep hbg)
  replace ke := Lib.hid (ke.out.keep hbg)
  replace kf := Lib.hid (kf.out.keep hbg)
  have zg : (w3.alloc (.cells #[.int .i64 cu, .int .i64 cv] 23)).heap.size = w3.heap.size + 1 := by simp
  replace HB := Lib.hid (HB.out.trans (hbg.mono HB.out.size))
  have kg := Lib.hid (Lok.new w3 23 #[.int .i64 cu, .int .i64 cv])
  clear hbg
  generalize w3.alloc (.cells #[.int .i64 cu, .int .i64 cv] 23) = Vg at *
  have hbh := below_new1 Vg (.cells #[.int .i64 cn, .int .i64 cd] 29)
  replace kp := Lib.hid (kp.out.keep hbh)
  replace kt := Lib.hid (kt.out.keep hbh)
  replace ks := Lib.hid (ks.out.keep hbh)
  replace kc := Lib.hid (kc.out.keep hbh)
  replace kd := Lib.hid (kd.out.keep hbh)
  replace ke := Lib.hid (ke.out.keep hbh)
  replace kf := Lib.hid (kf.out.keep hbh)
  replace kg := Lib.hid (kg.out.keep hbh)
  have zh : (Vg.alloc (.cells #[.int .i64 cn, .int .i64 cd] 29)).heap.size = Vg.heap.size + 1 := by simp
  replace HB := Lib.hid (HB.out.trans (hbh.mono HB.out.size))
  have kh := Lib.hid (Lok.new Vg 29 #[.int .i64 cn, .int .i64 cd])
  clear hbh
  generalize Vg.alloc (.cells #[.int .i64 cn, .int .i64 cd] 29) = Vh at *
  rw [zg] at kh
  clear zg zh
  generalize w3.heap.size = gg at *
  have p0 := kp.out.cell (i := 0) rfl
  have p1 := kp.out.cell (i := 1) rfl
  have t0 := kt.out.cell (i := 0) rfl
  have t1 := kt.out.cell (i := 1) rfl
  have t2 := kt.out.cell (i := 2) rfl
  have t3 := kt.out.cell (i := 3) rfl
  have t4 := kt.out.cell (i := 4) rfl
  have t5 := kt.out.cell (i := 5) rfl
  go_wp2_with fail
  clear p0 p1 t0 t1 t2 t3 t4 t5
  (((with_reducible refine (C2.out _).mono ?_); rintro e w4 ⟨rfl, hb4⟩); replace HB := Lib.hid (HB.out.trans (hb4.mono HB.out.size)); replace kp := Lib.hid (kp.out.keep hb4); replace kt := Lib.hid (kt.out.keep hb4); replace ks := Lib.hid (ks.out.keep hb4); replace kc := Lib.hid (kc.out.keep hb4); replace kd := Lib.hid (kd.out.keep hb4); replace ke := Lib.hid (ke.out.keep hb4); replace kf := Lib.hid (kf.out.keep hb4); replace kg := Lib.hid (kg.out.keep hb4); replace kh := Lib.hid (kh.out.keep hb4); clear hb4)
  clear C2
  go_upto_region 5 with fail
  have hbi := below_new1 w4 (.cells #[.int .i64 cu, .int .i64 cv] 23)
  replace kp := Lib.hid (kp.out.keep hbi)
  replace kt := Lib.hid (kt.out.keep hbi)
  replace ks := Lib.hid (ks.out.keep hbi)
  replace kc := Lib.hid (kc.out.keep hbi)
  replace kd := Lib.hid (kd.out.keep hbi)
  replace ke := Lib.hid (ke.out.keep hbi)
  replace kf := Lib.hid (kf.out.keep hbi)
  replace kg := Lib.hid (kg.out.keep hbi)
  replace kh := Lib.hid (kh.out.keep hbi)
  have zi : (w4.alloc (.cells #[.int .i64 cu, .int .i64 cv] 23)).heap.size = w4.heap.size + 1 := by simp
  replace HB := Lib.hid (HB.out.trans (hbi.mono HB.out.size))
  have ki := Lib.hid (Lok.new w4 23 #[.int .i64 cu, .int .i64 cv])
  clear hbi
  generalize w4.alloc (.cells #[.int .i64 cu, .int .i64 cv] 23) = Vi at *
  have hbj := below_new1 Vi (.cells #[.int .i64 cn, .int .i64 cd] 29)
  replace kp := Lib.hid (kp.out.keep hbj)
  replace kt := Lib.hid (kt.out.keep hbj)
  replace ks := Lib.hid (ks.out.keep hbj)
  replace kc := Lib.hid (kc.out.keep hbj)
  replace kd := Lib.hid (kd.out.keep hbj)
  replace ke := Lib.hid (ke.out.keep hbj)
  replace kf := Lib.hid (kf.out.keep hbj)
  replace kg := Lib.hid (kg.out.keep hbj)
  replace kh := Lib.hid (kh.out.keep hbj)
  replace ki := Lib.hid (ki.out.keep hbj)
  have zj : (Vi.alloc (.cells #[.int .i64 cn, .int .i64 cd] 29)).heap.size = Vi.heap.size + 1 := by simp
  replace HB := Lib.hid (HB.out.trans (hbj.mono HB.out.size))
  have kj := Lib.hid (Lok.new Vi 29 #[.int .i64 cn, .int .i64 cd])
  clear hbj
  generalize Vi.alloc (.cells #[.int .i64 cn, .int .i64 cd] 29) = Vj at *
  rw [zi] at kj
  clear zi zj
  generalize w4.heap.size = gi at *
  have p0 := kp.out.cell (i := 0) rfl
  have p1 := kp.out.cell (i := 1) rfl
  have t0 := kt.out.cell (i := 0) rfl
  have t1 := kt.out.cell (i := 1) rfl
  have t2 := kt.out.cell (i := 2) rfl
  have t3 := kt.out.cell (i := 3) rfl
  have t4 := kt.out.cell (i := 4) rfl
  have t5 := kt.out.cell (i := 5) rfl
  go_wp2_with fail
  clear p0 p1 t0 t1 t2 t3 t4 t5
  (((with_reducible refine (W1.out _).mono ?_); rintro e w5 ⟨rfl, hb5⟩); replace HB := Lib.hid (HB.out.trans (hb5.mono HB.out.size)); replace kp := Lib.hid (kp.out.keep hb5); replace kt := Lib.hid (kt.out.keep hb5); replace ks := Lib.hid (ks.out.keep hb5); replace kc := Lib.hid (kc.out.keep hb5); replace kd := Lib.hid (kd.out.keep hb5); replace ke := Lib.hid (ke.out.keep hb5); replace kf := Lib.hid (kf.out.keep hb5); replace kg := Lib.hid (kg.out.keep hb5); replace kh := Lib.hid (kh.out.keep hb5); replace ki := Lib.hid (ki.out.keep hb5); replace kj := Lib.hid (kj.out.keep hb5); clear hb5)
  clear W1
  go_upto_region 6 with fail
  have hbk := below_new1 w5 (.cells #[.int .i64 g0, .int .i64 g1, .int .i64 g2] 35)
  replace kp := Lib.hid (kp.out.keep hbk)
  replace kt := Lib.hid (kt.out.keep hbk)
  replace ks := Lib.hid (ks.out.keep hbk)
  replace kc := Lib.hid (kc.out.keep hbk)
  replace kd := Lib.hid (kd.out.keep hbk)
  replace ke := Lib.hid (ke.out.keep hbk)
  replace kf := Lib.hid (kf.out.keep hbk)
  replace kg := Lib.hid (kg.out.keep hbk)
  replace kh := Lib.hid (kh.out.keep hbk)
  replace ki := Lib.hid (ki.out.keep hbk)
  replace kj := Lib.hid (kj.out.keep hbk)
  have zk : (w5.alloc (.cells #[.int .i64 g0, .int .i64 g1, .int .i64 g2] 35)).heap.size = w5.heap.size + 1 := by simp
  replace HB := Lib.hid (HB.out.trans (hbk.mono HB.out.size))
  have kk := Lib.hid (Lok.new w5 35 #[.int .i64 g0, .int .i64 g1, .int .i64 g2])
  clear hbk
  generalize w5.alloc (.cells #[.int .i64 g0, .int .i64 g1, .int .i64 g2] 35) = Vk at *
  clear zk
  generalize w5.heap.size = gk at *
  have p0 := kp.out.cell (i := 0) rfl
  have p1 := kp.out.cell (i := 1) rfl
  have t0 := kt.out.cell (i := 0) rfl
  have t1 := kt.out.cell (i := 1) rfl
  have t2 := kt.out.cell (i := 2) rfl
  have t3 := kt.out.cell (i := 3) rfl
  have t4 := kt.out.cell (i := 4) rfl
  have t5 := kt.out.cell (i := 5) rfl
  go_wp2_with fail
  clear p0 p1 t0 t1 t2 t3 t4 t5
  (((with_reducible refine (W2.out _).mono ?_); rintro e w6 ⟨rfl, hb6⟩); replace HB := Lib.hid (HB.out.trans (hb6.mono HB.out.size)); replace kp := Lib.hid (kp.out.keep hb6); replace kt := Lib.hid (kt.out.keep hb6); replace ks := Lib.hid (ks.out.keep hb6); replace kc := Lib.hid (kc.out.keep hb6); replace kd := Lib.hid (kd.out.keep hb6); replace ke := Lib.hid (ke.out.keep hb6); replace kf := Lib.hid (kf.out.keep hb6); replace kg := Lib.hid (kg.out.keep hb6); replace kh := Lib.hid (kh.out.keep hb6); replace ki := Lib.hid (ki.out.keep hb6); replace kj := Lib.hid (kj.out.keep hb6); replace kk := Lib.hid (kk.out.keep hb6); clear hb6)
  clear W2
  go_upto_region 7 with fail
  have hbl := below_new1 w6 (.cells #[.int .i64 g0, .int .i64 g1, .int .i64 g2] 35)
  replace kp := Lib.hid (kp.out.keep hbl)
  replace kt := Lib.hid (kt.out.keep hbl)
  replace ks := Lib.hid (ks.out.keep hbl)
  replace kc := Lib.hid (kc.out.keep hbl)
  replace kd := Lib.hid (kd.out.keep hbl)
  replace ke := Lib.hid (ke.out.keep hbl)
  replace kf := Lib.hid (kf.out.keep hbl)
  replace kg := Lib.hid (kg.out.keep hbl)
  replace kh := Lib.hid (kh.out.keep hbl)
  replace ki := Lib.hid (ki.out.keep hbl)
  replace kj := Lib.hid (kj.out.keep hbl)
  replace kk := Lib.hid (kk.out.keep hbl)
  have zl : (w6.alloc (.cells #[.int .i64 g0, .int .i64 g1, .int .i64 g2] 35)).heap.size = w6.heap.size + 1 := by simp
  replace HB := Lib.hid (HB.out.trans (hbl.mono HB.out.size))
  have kl := Lib.hid (Lok.new w6 35 #[.int .i64 g0, .int .i64 g1, .int .i64 g2])
  clear hbl
  generalize w6.alloc (.cells #[.int .i64 g0, .int .i64 g1, .int .i64 g2] 35) = Vl at *
  clear zl
  generalize w6.heap.size = gl at *
  have p0 := kp.out.cell (i := 0) rfl
  have p1 := kp.out.cell (i := 1) rfl
  have t0 := kt.out.cell (i := 0) rfl
  have t1 := kt.out.cell (i := 1) rfl
  have t2 := kt.out.cell (i := 2) rfl
  have t3 := kt.out.cell (i := 3) rfl
  have t4 := kt.out.cell (i := 4) rfl
  have t5 := kt.out.cell (i := 5) rfl
  have s0 := ks.out.cell (i := 0) rfl
  have s1 := ks.out.cell (i := 1) rfl
  have s2 := ks.out.cell (i := 2) rfl
  have s3 := ks.out.cell (i := 3) rfl
  have s4 := ks.out.cell (i := 4) rfl
  have s5 := ks.out.cell (i := 5) rfl
  have s6 := ks.out.cell (i := 6) rfl
  have s7 := ks.out.cell (i := 7) rfl
  have s8 := ks.out.cell (i := 8) rfl
  go_wp2_with fail
  clear p0 p1 t0 t1 t2 t3 t4 t5 s0 s1 s2 s3 s4 s5 s6 s7 s8
  (((with_reducible refine (L1.out _).mono ?_); rintro e w7 ⟨rfl, hb7⟩); replace HB := Lib.hid (HB.out.trans (hb7.mono HB.out.size)); replace kp := Lib.hid (kp.out.keep hb7); replace kt := Lib.hid (kt.out.keep hb7); replace ks := Lib.hid (ks.out.keep hb7); replace kc := Lib.hid (kc.out.keep hb7); replace kd := Lib.hid (kd.out.keep hb7); replace ke := Lib.hid (ke.out.keep hb7); replace kf := Lib.hid (kf.out.keep hb7); replace kg := Lib.hid (kg.out.keep hb7); replace kh := Lib.hid (kh.out.keep hb7); replace ki := Lib.hid (ki.out.keep hb7); replace kj := Lib.hid (kj.out.keep hb7); replace kk := Lib.hid (kk.out.keep hb7); replace kl := Lib.hid (kl.out.keep hb7); clear hb7)
  clear L1
  go_upto_region 8 with fail
  have hbm := below_new1 w7 (.cells #[.int .i64 lv0, .int .i64 lv1, .int .i64 lv2] 26)
  replace kp := Lib.hid (kp.out.keep hbm)
  replace kt := Lib.hid (kt.out.keep hbm)
  replace ks := Lib.hid (ks.out.keep hbm)
  replace kc := Lib.hid (kc.out.keep hbm)
  replace kd := Lib.hid (kd.out.keep hbm)
  replace ke := Lib.hid (ke.out.keep hbm)
  replace kf := Lib.hid (kf.out.keep hbm)
  replace kg := Lib.hid (kg.out.keep hbm)
  replace kh := Lib.hid (kh.out.keep hbm)
  replace ki := Lib.hid (ki.out.keep hbm)
  replace kj := Lib.hid (kj.out.keep hbm)
  replace kk := Lib.hid (kk.out.keep hbm)
  replace kl := Lib.hid (kl.out.keep hbm)
  have zm : (w7.alloc (.cells #[.int .i64 lv0, .int .i64 lv1, .int .i64 lv2] 26)).heap.size = w7.heap.size + 1 := by simp
  replace HB := Lib.hid (HB.out.trans (hbm.mono HB.out.size))
  have km := Lib.hid (Lok.new w7 26 #[.int .i64 lv0, .int .i64 lv1, .int .i64 lv2])
  clear hbm
  generalize w7.alloc (.cells #[.int .i64 lv0, .int .i64 lv1, .int .i64 lv2] 26) = Vm at *
  clear zm
  generalize w7.heap.size = gm at *
  have p0 := kp.out.cell (i := 0) rfl
  have p1 := kp.out.cell (i := 1) rfl
  have t0 := kt.out.cell (i := 0) rfl
  have t1 := kt.out.cell (i := 1) rfl
  have t2 := kt.out.cell (i := 2) rfl
  have t3 := kt.out.cell (i := 3) rfl
  have t4 := kt.out.cell (i := 4) rfl
  have t5 := kt.out.cell (i := 5) rfl
  have s0 := ks.out.cell (i := 0) rfl
  have s1 := ks.out.cell (i := 1) rfl
  have s2 := ks.out.cell (i := 2) rfl
  have s3 := ks.out.cell (i := 3) rfl
  have s4 := ks.out.cell (i := 4) rfl
  have s5 := ks.out.cell (i := 5) rfl
  have s6 := ks.out.cell (i := 6) rfl
  have s7 := ks.out.cell (i := 7) rfl
  have s8 := ks.out.cell (i := 8) rfl
  go_wp2_with fail
  clear p0 p1 t0 t1 t2 t3 t4 t5 s0 s1 s2 s3 s4 s5 s6 s7 s8
  (((with_reducible refine (L2.out _).mono ?_); rintro e w8 ⟨rfl, hb8⟩); replace HB := Lib.hid (HB.out.trans (hb8.mono HB.out.size)); replace kp := Lib.hid (kp.out.keep hb8); replace kt := Lib.hid (kt.out.keep hb8); replace ks := Lib.hid (ks.out.keep hb8); replace kc := Lib.hid (kc.out.keep hb8); replace kd := Lib.hid (kd.out.keep hb8); replace ke := Lib.hid (ke.out.keep hb8); replace kf := Lib.hid (kf.out.keep hb8); replace kg := Lib.hid (kg.out.keep hb8); replace kh := Lib.hid (kh.out.keep hb8); replace ki := Lib.hid (ki.out.keep hb8); replace kj := Lib.hid (kj.out.keep hb8); replace kk := Lib.hid (kk.out.keep hb8); replace kl := Lib.hid (kl.out.keep hb8); replace km := Lib.hid (km.out.keep hb8); clear hb8)
  clear L2
  go_upto_region 9 with fail
  have hbn := below_new1 w8 (.cells #[.int .i64 lv0, .int .i64 lv1, .int .i64 lv2] 26)
  replace kp := Lib.hid (kp.out.keep hbn)
  replace kt := Lib.hid (kt.out.keep hbn)
  replace ks := Lib.hid (ks.out.keep hbn)
  replace kc := Lib.hid (kc.out.keep hbn)
  replace kd := Lib.hid (kd.out.keep hbn)
  replace ke := Lib.hid (ke.out.keep hbn)
  replace kf := Lib.hid (kf.out.keep hbn)
  replace kg := Lib.hid (kg.out.keep hbn)
  replace kh := Lib.hid (kh.out.keep hbn)
  replace ki := Lib.hid (ki.out.keep hbn)
  replace kj := Lib.hid (kj.out.keep hbn)
  replace kk := Lib.hid (kk.out.keep hbn)
  replace kl := Lib.hid (kl.out.keep hbn)
  replace km := Lib.hid (km.out.keep hbn)
  have zn : (w8.alloc (.cells #[.int .i64 lv0, .int .i64 lv1, .int .i64 lv2] 26)).heap.size = w8.heap.size + 1 := by simp
  replace HB := Lib.hid (HB.out.trans (hbn.mono HB.out.size))
  have kn := Lib.hid (Lok.new w8 26 #[.int .i64 lv0, .int .i64 lv1, .int .i64 lv2])
  clear hbn
  generalize w8.alloc (.cells #[.int .i64 lv0, .int .i64 lv1, .int .i64 lv2] 26) = Vn at *
  clear zn
  generalize w8.heap.size = gn at *
  clear kp kt ks
  generalize (.tuple #[.agg #[.int .i64 eu, .int .i64 ev], .int .i64 ek, .agg #[.int .i64 en, .int .i64 ed], .int .i64 ee] : Value) = T1
  generalize (.tuple #[.agg #[.int .i64 cu, .int .i64 cv], .agg #[.int .i64 cn, .int .i64 cd], .int .i64 ie] : Value) = T2
  generalize (.tuple #[.agg #[.int .i64 g0, .int .i64 g1, .int .i64 g2], .int .i64 gn, .int .i64 ie] : Value) = T3
  generalize (.tuple #[.agg #[.int .i64 lv0, .int .i64 lv1, .int .i64 lv2], .int .i64 le] : Value) = T4
  generalize (.agg #[.int .i64 a1, .int .i64 a2, .int .i64 b1, .int .i64 b2, .int .i64 c1, .int .i64 c2] : Value) = TV
  generalize (.agg #[.int .i64 qa1, .int .i64 qa2, .int .i64 qa3, .int .i64 qb1, .int .i64 qb2, .int .i64 qb3, .int .i64 qc1, .int .i64 qc2, .int .i64 qc3] : Value) = SV
  generalize (.agg #[.int .i64 x, .int .i64 y] : Value) = PV
  generalize (.agg #[.int .i64 ea1, .int .i64 ea2] : Value) = AV
  generalize (.agg #[.int .i64 eb1, .int .i64 eb2] : Value) = BV
  go_wp2_with fail
  (((with_reducible refine (ME.out _).mono ?_); rintro e w9 ⟨rfl, hb9⟩); replace HB := Lib.hid (HB.out.trans (hb9.mono HB.out.size)); replace kc := Lib.hid (kc.out.keep hb9); replace kd := Lib.hid (kd.out.keep hb9); replace ke := Lib.hid (ke.out.keep hb9); replace kf := Lib.hid (kf.out.keep hb9); replace kg := Lib.hid (kg.out.keep hb9); replace kh := Lib.hid (kh.out.keep hb9); replace ki := Lib.hid (ki.out.keep hb9); replace kj := Lib.hid (kj.out.keep hb9); replace kk := Lib.hid (kk.out.keep hb9); replace kl := Lib.hid (kl.out.keep hb9); replace km := Lib.hid (km.out.keep hb9); replace kn := Lib.hid (kn.out.keep hb9); clear hb9)
  have c0 := kc.out.cell (i := 0) rfl
  have c1 := kc.out.cell (i := 1) rfl
  have d0 := kd.out.cell (i := 0) rfl
  have d1 := kd.out.cell (i := 1) rfl
  have e0 := ke.out.cell (i := 0) rfl
  have e1 := ke.out.cell (i := 1) rfl
  have f0 := kf.out.cell (i := 0) rfl
  have f1 := kf.out.cell (i := 1) rfl
  have g0 := kg.out.cell (i := 0) rfl
  have g1 := kg.out.cell (i := 1) rfl
  have h0 := kh.out.cell (i := 0) rfl
  have h1 := kh.out.cell (i := 1) rfl
  have i0 := ki.out.cell (i := 0) rfl
  have i1 := ki.out.cell (i := 1) rfl
  have j0 := kj.out.cell (i := 0) rfl
  have j1 := kj.out.cell (i := 1) rfl
  have k0 := kk.out.cell (i := 0) rfl
  have k1 := kk.out.cell (i := 1) rfl
  have k2 := kk.out.cell (i := 2) rfl
  have l0 := kl.out.cell (i := 0) rfl
  have l1 := kl.out.cell (i := 1) rfl
  have l2 := kl.out.cell (i := 2) rfl
  have m0 := km.out.cell (i := 0) rfl
  have m1 := km.out.cell (i := 1) rfl
  have m2 := km.out.cell (i := 2) rfl
  have n0 := kn.out.cell (i := 0) rfl
  have n1 := kn.out.cell (i := 1) rfl
  have n2 := kn.out.cell (i := 2) rfl
  go_wp2
  go_ret
  exact ⟨rfl, HB.out⟩
end Go.Proofs.Ytllamakemgogaaa
