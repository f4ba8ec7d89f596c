/-
  NearLift, walked. (gen/NrS.py)
-/
import Derived.Test.YtllamakemgogaaaNrN
import Derived.Test.YtllamakemgogaaaNrK
import Derived.Test.YtllamakemgogaaaGaF
namespace Go.Proofs.Ytllamakemgogaaa
open Go.RowKit

set_option maxRecDepth 100000 in
@[go_sem high] theorem neq_v3 (w : World) (a b c : Int) : (binOp .neq 26 (.agg #[.int .i64 a, .int .i64 b, .int .i64 c]) (.agg #[.int .i64 a, .int .i64 b, .int .i64 c])).run Try.prog w = .ok (.bool false) w := by
  simp [go_sem]
theorem at_a (a1 a2 b1 b2 c1 c2 : Int) : wA a1 a2 a1 a2 b1 b2 c1 c2 = wW a1 a2 b1 b2 c1 c2 ∧ wB a1 a2 a1 a2 b1 b2 c1 c2 = 0 ∧ wC a1 a2 a1 a2 b1 b2 c1 c2 = 0 := by
  unfold wA wB wC wW
  rw [ar_first, ar_last, wg_zero]; exact ⟨rfl, rfl, rfl⟩
theorem at_b (a1 a2 b1 b2 c1 c2 : Int) : wA b1 b2 a1 a2 b1 b2 c1 c2 = 0 ∧ wB b1 b2 a1 a2 b1 b2 c1 c2 = wW a1 a2 b1 b2 c1 c2 ∧ wC b1 b2 a1 a2 b1 b2 c1 c2 = 0 := by
  unfold wA wB wC wW
  rw [ar_first, ar_last, wg_zero, ar_turn a1 a2 b1 b2 c1 c2]; exact ⟨rfl, rfl, rfl⟩
theorem at_c (a1 a2 b1 b2 c1 c2 : Int) : wA c1 c2 a1 a2 b1 b2 c1 c2 = 0 ∧ wB c1 c2 a1 a2 b1 b2 c1 c2 = 0 ∧ wC c1 c2 a1 a2 b1 b2 c1 c2 = wW a1 a2 b1 b2 c1 c2 := by
  unfold wA wB wC wW
  rw [ar_first, ar_last, wg_zero, show ar c1 c2 a1 a2 b1 b2 = ar a1 a2 b1 b2 c1 c2 from by rw [ar_turn b1 b2 c1 c2 a1 a2, ar_turn]]; exact ⟨rfl, rfl, rfl⟩
set_option maxRecDepth 100000 in
set_option maxHeartbeats 16000000 in
theorem law_lift (x y a1 a2 b1 b2 c1 c2 qa1 qa2 qa3 qb1 qb2 qb3 qc1 qc2 qc3 : Int) (w : World) :
    Calls Try.prog 7 #[.agg #[.int .i64 x, .int .i64 y], .agg #[.int .i64 a1, .int .i64 a2, .int .i64 b1, .int .i64 b2, .int .i64 c1, .int .i64 c2], .agg #[.int .i64 qa1, .int .i64 qa2, .int .i64 qa3, .int .i64 qb1, .int .i64 qb2, .int .i64 qb3, .int .i64 qc1, .int .i64 qc2, .int .i64 qc3]] w fun e' w' => e' = .returned (.bool true) ∧ Below w.heap.size w w' := by
  have HB := Lib.hid (Below.refl w.heap.size w)
  have ME := Lib.hid (fun W => neared_any W)
  have L1 := Lib.hid (fun W => lift_any x y a1 a2 b1 b2 c1 c2 qa1 qa2 qa3 qb1 qb2 qb3 qc1 qc2 qc3 W)
  have IN := Lib.hid (fun W => in_any x y a1 a2 b1 b2 c1 c2 W)
  have zz : q3 0 0 0 0 0 0 = true := by decide
  cases hu : s3 qa1 qa2 qa3 && s3 qb1 qb2 qb3 && s3 qc1 qc2 qc3 with
  | false =>
    simp only [hu, lV_no, lE_no] at L1
    clear hu IN
    go_enter Try.func7, Try.ntmps7
    go_upto_region 1 with fail
    have hbp := below_new1 w (.cells #[.int .i64 x, .int .i64 y] 23)
    have zp : (w.alloc (.cells #[.int .i64 x, .int .i64 y] 23)).heap.size = w.heap.size + 1 := by simp
    have HB := Lib.hid hbp
    have kp := Lib.hid (Lok.new w 23 #[.int .i64 x, .int .i64 y])
    clear hbp
    generalize w.alloc (.cells #[.int .i64 x, .int .i64 y] 23) = Vp at *
    have hbt := below_new1 Vp (.cells #[.int .i64 a1, .int .i64 a2, .int .i64 b1, .int .i64 b2, .int .i64 c1, .int .i64 c2] 24)
    replace kp := Lib.hid (kp.out.keep hbt)
    have zt : (Vp.alloc (.cells #[.int .i64 a1, .int .i64 a2, .int .i64 b1, .int .i64 b2, .int .i64 c1, .int .i64 c2] 24)).heap.size = Vp.heap.size + 1 := by simp
    replace HB := Lib.hid (HB.out.trans (hbt.mono HB.out.size))
    have kt := Lib.hid (Lok.new Vp 24 #[.int .i64 a1, .int .i64 a2, .int .i64 b1, .int .i64 b2, .int .i64 c1, .int .i64 c2])
    clear hbt
    generalize Vp.alloc (.cells #[.int .i64 a1, .int .i64 a2, .int .i64 b1, .int .i64 b2, .int .i64 c1, .int .i64 c2] 24) = Vt at *
    rw [zp] at kt zt
    have hbs := below_new1 Vt (.cells #[.int .i64 qa1, .int .i64 qa2, .int .i64 qa3, .int .i64 qb1, .int .i64 qb2, .int .i64 qb3, .int .i64 qc1, .int .i64 qc2, .int .i64 qc3] 27)
    replace kp := Lib.hid (kp.out.keep hbs)
    replace kt := Lib.hid (kt.out.keep hbs)
    have zs : (Vt.alloc (.cells #[.int .i64 qa1, .int .i64 qa2, .int .i64 qa3, .int .i64 qb1, .int .i64 qb2, .int .i64 qb3, .int .i64 qc1, .int .i64 qc2, .int .i64 qc3] 27)).heap.size = Vt.heap.size + 1 := by simp
    replace HB := Lib.hid (HB.out.trans (hbs.mono HB.out.size))
    have ks := Lib.hid (Lok.new Vt 27 #[.int .i64 qa1, .int .i64 qa2, .int .i64 qa3, .int .i64 qb1, .int .i64 qb2, .int .i64 qb3, .int .i64 qc1, .int .i64 qc2, .int .i64 qc3])
    clear hbs
    generalize Vt.alloc (.cells #[.int .i64 qa1, .int .i64 qa2, .int .i64 qa3, .int .i64 qb1, .int .i64 qb2, .int .i64 qb3, .int .i64 qc1, .int .i64 qc2, .int .i64 qc3] 27) = Vs at *
    rw [zt] at ks
    clear zp zt zs
    have p0 := kp.out.cell (i := 0) rfl
    have p1 := kp.out.cell (i := 1) rfl
    have t0 := kt.out.cell (i := 0) rfl
    have t1 := kt.out.cell (i := 1) rfl
    have t2 := kt.out.cell (i := 2) rfl
    have t3 := kt.out.cell (i := 3) rfl
    have t4 := kt.out.cell (i := 4) rfl
    have t5 := kt.out.cell (i := 5) rfl
    have s0 := ks.out.cell (i := 0) rfl
    have s1 := ks.out.cell (i := 1) rfl
    have s2 := ks.out.cell (i := 2) rfl
    have s3 := ks.out.cell (i := 3) rfl
    have s4 := ks.out.cell (i := 4) rfl
    have s5 := ks.out.cell (i := 5) rfl
    have s6 := ks.out.cell (i := 6) rfl
    have s7 := ks.out.cell (i := 7) rfl
    have s8 := ks.out.cell (i := 8) rfl
    go_wp2_with fail
    clear p0 p1 t0 t1 t2 t3 t4 t5 s0 s1 s2 s3 s4 s5 s6 s7 s8
    (((with_reducible refine (L1.out _).mono ?_); rintro e w1 ⟨rfl, hb1⟩); replace HB := Lib.hid (HB.out.trans (hb1.mono HB.out.size)); replace kp := Lib.hid (kp.out.keep hb1); replace kt := Lib.hid (kt.out.keep hb1); replace ks := Lib.hid (ks.out.keep hb1); clear hb1)
    go_upto_region 2 with fail
    have hbm := below_new1 w1 (.cells #[.int .i64 0, .int .i64 0, .int .i64 0] 26)
    replace kp := Lib.hid (kp.out.keep hbm)
    replace kt := Lib.hid (kt.out.keep hbm)
    replace ks := Lib.hid (ks.out.keep hbm)
    have zm : (w1.alloc (.cells #[.int .i64 0, .int .i64 0, .int .i64 0] 26)).heap.size = w1.heap.size + 1 := by simp
    replace HB := Lib.hid (HB.out.trans (hbm.mono HB.out.size))
    have km := Lib.hid (Lok.new w1 26 #[.int .i64 0, .int .i64 0, .int .i64 0])
    clear hbm
    generalize w1.alloc (.cells #[.int .i64 0, .int .i64 0, .int .i64 0] 26) = Vm at *
    clear zm
    generalize w1.heap.size = gm at *
    go_wp2_with fail
    (((with_reducible refine (ME.out _).mono ?_); rintro e w2 ⟨rfl, hb2⟩); replace HB := Lib.hid (HB.out.trans (hb2.mono HB.out.size)); replace km := Lib.hid (km.out.keep hb2); clear hb2)
    have m0 := km.out.cell (i := 0) rfl
    have m1 := km.out.cell (i := 1) rfl
    have m2 := km.out.cell (i := 2) rfl
    go_wp2
    go_ret
    exact ⟨rfl, HB.out⟩
  | true =>
    simp only [hu, lV_yes, lE_yes] at L1
    cases hs : s2 x y with
    | false =>
      simp only [hs, gV_no, iE_no] at L1
      clear hs hu IN
      go_enter Try.func7, Try.ntmps7
      go_upto_region 1 with fail
      have hbp := below_new1 w (.cells #[.int .i64 x, .int .i64 y] 23)
      have zp : (w.alloc (.cells #[.int .i64 x, .int .i64 y] 23)).heap.size = w.heap.size + 1 := by simp
      have HB := Lib.hid hbp
      have kp := Lib.hid (Lok.new w 23 #[.int .i64 x, .int .i64 y])
      clear hbp
      generalize w.alloc (.cells #[.int .i64 x, .int .i64 y] 23) = Vp at *
      have hbt := below_new1 Vp (.cells #[.int .i64 a1, .int .i64 a2, .int .i64 b1, .int .i64 b2, .int .i64 c1, .int .i64 c2] 24)
      replace kp := Lib.hid (kp.out.keep hbt)
      have zt : (Vp.alloc (.cells #[.int .i64 a1, .int .i64 a2, .int .i64 b1, .int .i64 b2, .int .i64 c1, .int .i64 c2] 24)).heap.size = Vp.heap.size + 1 := by simp
      replace HB := Lib.hid (HB.out.trans (hbt.mono HB.out.size))
      have kt := Lib.hid (Lok.new Vp 24 #[.int .i64 a1, .int .i64 a2, .int .i64 b1, .int .i64 b2, .int .i64 c1, .int .i64 c2])
      clear hbt
      generalize Vp.alloc (.cells #[.int .i64 a1, .int .i64 a2, .int .i64 b1, .int .i64 b2, .int .i64 c1, .int .i64 c2] 24) = Vt at *
      rw [zp] at kt zt
      have hbs := below_new1 Vt (.cells #[.int .i64 qa1, .int .i64 qa2, .int .i64 qa3, .int .i64 qb1, .int .i64 qb2, .int .i64 qb3, .int .i64 qc1, .int .i64 qc2, .int .i64 qc3] 27)
      replace kp := Lib.hid (kp.out.keep hbs)
      replace kt := Lib.hid (kt.out.keep hbs)
      have zs : (Vt.alloc (.cells #[.int .i64 qa1, .int .i64 qa2, .int .i64 qa3, .int .i64 qb1, .int .i64 qb2, .int .i64 qb3, .int .i64 qc1, .int .i64 qc2, .int .i64 qc3] 27)).heap.size = Vt.heap.size + 1 := by simp
      replace HB := Lib.hid (HB.out.trans (hbs.mono HB.out.size))
      have ks := Lib.hid (Lok.new Vt 27 #[.int .i64 qa1, .int .i64 qa2, .int .i64 qa3, .int .i64 qb1, .int .i64 qb2, .int .i64 qb3, .int .i64 qc1, .int .i64 qc2, .int .i64 qc3])
      clear hbs
      generalize Vt.alloc (.cells #[.int .i64 qa1, .int .i64 qa2, .int .i64 qa3, .int .i64 qb1, .int .i64 qb2, .int .i64 qb3, .int .i64 qc1, .int .i64 qc2, .int .i64 qc3] 27) = Vs at *
      rw [zt] at ks
      clear zp zt zs
      have p0 := kp.out.cell (i := 0) rfl
      have p1 := kp.out.cell (i := 1) rfl
      have t0 := kt.out.cell (i := 0) rfl
      have t1 := kt.out.cell (i := 1) rfl
      have t2 := kt.out.cell (i := 2) rfl
      have t3 := kt.out.cell (i := 3) rfl
      have t4 := kt.out.cell (i := 4) rfl
      have t5 := kt.out.cell (i := 5) rfl
      have s0 := ks.out.cell (i := 0) rfl
      have s1 := ks.out.cell (i := 1) rfl
      have s2 := ks.out.cell (i := 2) rfl
      have s3 := ks.out.cell (i := 3) rfl
      have s4 := ks.out.cell (i := 4) rfl
      have s5 := ks.out.cell (i := 5) rfl
      have s6 := ks.out.cell (i := 6) rfl
      have s7 := ks.out.cell (i := 7) rfl
      have s8 := ks.out.cell (i := 8) rfl
      go_wp2_with fail
      clear p0 p1 t0 t1 t2 t3 t4 t5 s0 s1 s2 s3 s4 s5 s6 s7 s8
      (((with_reducible refine (L1.out _).mono ?_); rintro e w1 ⟨rfl, hb1⟩); replace HB := Lib.hid (HB.out.trans (hb1.mono HB.out.size)); replace kp := Lib.hid (kp.out.keep hb1); replace kt := Lib.hid (kt.out.keep hb1); replace ks := Lib.hid (ks.out.keep hb1); clear hb1)
      go_upto_region 2 with fail
      have hbm := below_new1 w1 (.cells #[.int .i64 0, .int .i64 0, .int .i64 0] 26)
      replace kp := Lib.hid (kp.out.keep hbm)
      replace kt := Lib.hid (kt.out.keep hbm)
      replace ks := Lib.hid (ks.out.keep hbm)
      have zm : (w1.alloc (.cells #[.int .i64 0, .int .i64 0, .int .i64 0] 26)).heap.size = w1.heap.size + 1 := by simp
      replace HB := Lib.hid (HB.out.trans (hbm.mono HB.out.size))
      have km := Lib.hid (Lok.new w1 26 #[.int .i64 0, .int .i64 0, .int .i64 0])
      clear hbm
      generalize w1.alloc (.cells #[.int .i64 0, .int .i64 0, .int .i64 0] 26) = Vm at *
      clear zm
      generalize w1.heap.size = gm at *
      go_wp2_with fail
      (((with_reducible refine (ME.out _).mono ?_); rintro e w2 ⟨rfl, hb2⟩); replace HB := Lib.hid (HB.out.trans (hb2.mono HB.out.size)); replace km := Lib.hid (km.out.keep hb2); clear hb2)
      have m0 := km.out.cell (i := 0) rfl
      have m1 := km.out.cell (i := 1) rfl
      have m2 := km.out.cell (i := 2) rfl
      go_wp2
      go_ret
      exact ⟨rfl, HB.out⟩
    | true =>
      cases ha : rT a1 a2 b1 b2 c1 c2 with
      | false =>
        simp only [hs, ha, gV_arg, iE_arg] at L1
        clear hs ha hu IN
        go_enter Try.func7, Try.ntmps7
        go_upto_region 1 with fail
        have hbp := below_new1 w (.cells #[.int .i64 x, .int .i64 y] 23)
        have zp : (w.alloc (.cells #[.int .i64 x, .int .i64 y] 23)).heap.size = w.heap.size + 1 := by simp
        have HB := Lib.hid hbp
        have kp := Lib.hid (Lok.new w 23 #[.int .i64 x, .int .i64 y])
        clear hbp
        generalize w.alloc (.cells #[.int .i64 x, .int .i64 y] 23) = Vp at *
        have hbt := below_new1 Vp (.cells #[.int .i64 a1, .int .i64 a2, .int .i64 b1, .int .i64 b2, .int .i64 c1, .int .i64 c2] 24)
        replace kp := Lib.hid (kp.out.keep hbt)
        have zt : (Vp.alloc (.cells #[.int .i64 a1, .int .i64 a2, .int .i64 b1, .int .i64 b2, .int .i64 c1, .int .i64 c2] 24)).heap.size = Vp.heap.size + 1 := by simp
        replace HB := Lib.hid (HB.out.trans (hbt.mono HB.out.size))
        have kt := Lib.hid (Lok.new Vp 24 #[.int .i64 a1, .int .i64 a2, .int .i64 b1, .int .i64 b2, .int .i64 c1, .int .i64 c2])
        clear hbt
        generalize Vp.alloc (.cells #[.int .i64 a1, .int .i64 a2, .int .i64 b1, .int .i64 b2, .int .i64 c1, .int .i64 c2] 24) = Vt at *
        rw [zp] at kt zt
        have hbs := below_new1 Vt (.cells #[.int .i64 qa1, .int .i64 qa2, .int .i64 qa3, .int .i64 qb1, .int .i64 qb2, .int .i64 qb3, .int .i64 qc1, .int .i64 qc2, .int .i64 qc3] 27)
        replace kp := Lib.hid (kp.out.keep hbs)
        replace kt := Lib.hid (kt.out.keep hbs)
        have zs : (Vt.alloc (.cells #[.int .i64 qa1, .int .i64 qa2, .int .i64 qa3, .int .i64 qb1, .int .i64 qb2, .int .i64 qb3, .int .i64 qc1, .int .i64 qc2, .int .i64 qc3] 27)).heap.size = Vt.heap.size + 1 := by simp
        replace HB := Lib.hid (HB.out.trans (hbs.mono HB.out.size))
        have ks := Lib.hid (Lok.new Vt 27 #[.int .i64 qa1, .int .i64 qa2, .int .i64 qa3, .int .i64 qb1, .int .i64 qb2, .int .i64 qb3, .int .i64 qc1, .int .i64 qc2, .int .i64 qc3])
        clear hbs
        generalize Vt.alloc (.cells #[.int .i64 qa1, .int .i64 qa2, .int .i64 qa3, .int .i64 qb1, .int .i64 qb2, .int .i64 qb3, .int .i64 qc1, .int .i64 qc2, .int .i64 qc3] 27) = Vs at *
        rw [zt] at ks
        clear zp zt zs
        have p0 := kp.out.cell (i := 0) rfl
        have p1 := kp.out.cell (i := 1) rfl
        have t0 := kt.out.cell (i := 0) rfl
        have t1 := kt.out.cell (i := 1) rfl
        have t2 := kt.out.cell (i := 2) rfl
        have t3 := kt.out.cell (i := 3) rfl
        have t4 := kt.out.cell (i := 4) rfl
        have t5 := kt.out.cell (i := 5) rfl
        have s0 := ks.out.cell (i := 0) rfl
        have s1 := ks.out.cell (i := 1) rfl
        have s2 := ks.out.cell (i := 2) rfl
        have s3 := ks.out.cell (i := 3) rfl
        have s4 := ks.out.cell (i := 4) rfl
        have s5 := ks.out.cell (i := 5) rfl
        have s6 := ks.out.cell (i := 6) rfl
        have s7 := ks.out.cell (i := 7) rfl
        have s8 := ks.out.cell (i := 8) rfl
        go_wp2_with fail
        clear p0 p1 t0 t1 t2 t3 t4 t5 s0 s1 s2 s3 s4 s5 s6 s7 s8
        (((with_reducible refine (L1.out _).mono ?_); rintro e w1 ⟨rfl, hb1⟩); replace HB := Lib.hid (HB.out.trans (hb1.mono HB.out.size)); replace kp := Lib.hid (kp.out.keep hb1); replace kt := Lib.hid (kt.out.keep hb1); replace ks := Lib.hid (ks.out.keep hb1); clear hb1)
        go_upto_region 2 with fail
        have hbm := below_new1 w1 (.cells #[.int .i64 0, .int .i64 0, .int .i64 0] 26)
        replace kp := Lib.hid (kp.out.keep hbm)
        replace kt := Lib.hid (kt.out.keep hbm)
        replace ks := Lib.hid (ks.out.keep hbm)
        have zm : (w1.alloc (.cells #[.int .i64 0, .int .i64 0, .int .i64 0] 26)).heap.size = w1.heap.size + 1 := by simp
        replace HB := Lib.hid (HB.out.trans (hbm.mono HB.out.size))
        have km := Lib.hid (Lok.new w1 26 #[.int .i64 0, .int .i64 0, .int .i64 0])
        clear hbm
        generalize w1.alloc (.cells #[.int .i64 0, .int .i64 0, .int .i64 0] 26) = Vm at *
        clear zm
        generalize w1.heap.size = gm at *
        go_wp2_with fail
        (((with_reducible refine (ME.out _).mono ?_); rintro e w2 ⟨rfl, hb2⟩); replace HB := Lib.hid (HB.out.trans (hb2.mono HB.out.size)); replace km := Lib.hid (km.out.keep hb2); clear hb2)
        have m0 := km.out.cell (i := 0) rfl
        have m1 := km.out.cell (i := 1) rfl
        have m2 := km.out.cell (i := 2) rfl
        go_wp2
        go_ret
        exact ⟨rfl, HB.out⟩
      | true =>
        simp only [hs, ha, gV_yes, iE_yes] at L1
        rw [hs, ha, iE_yes, show iV true true (r1 a1 a2 b1 b2 c1 c2 x y) = r1 a1 a2 b1 b2 c1 c2 x y + 1 from rfl] at IN
        have hu' := hu
        rw [Bool.and_eq_true, Bool.and_eq_true] at hu'
        obtain ⟨⟨u1, u2⟩, u3⟩ := hu'
        obtain ⟨h1, h2, h3⟩ := small_of3 (rT_small ha)
        have hA := (rT_iff.1 ha).2.2.2
        have C0 := Lib.hid (fun W => lift_any a1 a2 a1 a2 b1 b2 c1 c2 qa1 qa2 qa3 qb1 qb2 qb3 qc1 qc2 qc3 W)
        simp only [hu, h1, ha, lV_yes, lE_yes, gV_yes, iE_yes, (at_a a1 a2 b1 b2 c1 c2).1, (at_a a1 a2 b1 b2 c1 c2).2.1, (at_a a1 a2 b1 b2 c1 c2).2.2] at C0
        rw [show lf (wW a1 a2 b1 b2 c1 c2) 0 0 (wW a1 a2 b1 b2 c1 c2) qa1 qb1 qc1 = qa1 from (lf_corner hA qa1 qb1 qc1).1] at C0
        rw [show lf (wW a1 a2 b1 b2 c1 c2) 0 0 (wW a1 a2 b1 b2 c1 c2) qa2 qb2 qc2 = qa2 from (lf_corner hA qa2 qb2 qc2).1] at C0
        rw [show lf (wW a1 a2 b1 b2 c1 c2) 0 0 (wW a1 a2 b1 b2 c1 c2) qa3 qb3 qc3 = qa3 from (lf_corner hA qa3 qb3 qc3).1] at C0
        have C1 := Lib.hid (fun W => lift_any b1 b2 a1 a2 b1 b2 c1 c2 qa1 qa2 qa3 qb1 qb2 qb3 qc1 qc2 qc3 W)
        simp only [hu, h2, ha, lV_yes, lE_yes, gV_yes, iE_yes, (at_b a1 a2 b1 b2 c1 c2).1, (at_b a1 a2 b1 b2 c1 c2).2.1, (at_b a1 a2 b1 b2 c1 c2).2.2] at C1
        rw [show lf 0 (wW a1 a2 b1 b2 c1 c2) 0 (wW a1 a2 b1 b2 c1 c2) qa1 qb1 qc1 = qb1 from (lf_corner hA qa1 qb1 qc1).2.1] at C1
        rw [show lf 0 (wW a1 a2 b1 b2 c1 c2) 0 (wW a1 a2 b1 b2 c1 c2) qa2 qb2 qc2 = qb2 from (lf_corner hA qa2 qb2 qc2).2.1] at C1
        rw [show lf 0 (wW a1 a2 b1 b2 c1 c2) 0 (wW a1 a2 b1 b2 c1 c2) qa3 qb3 qc3 = qb3 from (lf_corner hA qa3 qb3 qc3).2.1] at C1
        have C2 := Lib.hid (fun W => lift_any c1 c2 a1 a2 b1 b2 c1 c2 qa1 qa2 qa3 qb1 qb2 qb3 qc1 qc2 qc3 W)
        simp only [hu, h3, ha, lV_yes, lE_yes, gV_yes, iE_yes, (at_c a1 a2 b1 b2 c1 c2).1, (at_c a1 a2 b1 b2 c1 c2).2.1, (at_c a1 a2 b1 b2 c1 c2).2.2] at C2
        rw [show lf 0 0 (wW a1 a2 b1 b2 c1 c2) (wW a1 a2 b1 b2 c1 c2) qa1 qb1 qc1 = qc1 from (lf_corner hA qa1 qb1 qc1).2.2] at C2
        rw [show lf 0 0 (wW a1 a2 b1 b2 c1 c2) (wW a1 a2 b1 b2 c1 c2) qa2 qb2 qc2 = qc2 from (lf_corner hA qa2 qb2 qc2).2.2] at C2
        rw [show lf 0 0 (wW a1 a2 b1 b2 c1 c2) (wW a1 a2 b1 b2 c1 c2) qa3 qb3 qc3 = qc3 from (lf_corner hA qa3 qb3 qc3).2.2] at C2
        have hn : 0 < wW a1 a2 b1 b2 c1 c2 := wg_self hA
        have hsum : wA x y a1 a2 b1 b2 c1 c2 + wB x y a1 a2 b1 b2 c1 c2 + wC x y a1 a2 b1 b2 c1 c2 = wW a1 a2 b1 b2 c1 c2 := wg_sum x y
        have D0 := Lib.hid (fun W => lift_any x y a1 a2 b1 b2 c1 c2 qa1 qa2 qa3 qa1 qa2 qa3 qa1 qa2 qa3 W)
        simp only [u1, hs, ha, Bool.and_self, lV_yes, lE_yes, gV_yes, iE_yes, lf_one hn hsum] at D0
        have D1 := Lib.hid (fun W => lift_any x y a1 a2 b1 b2 c1 c2 qb1 qb2 qb3 qb1 qb2 qb3 qb1 qb2 qb3 W)
        simp only [u2, hs, ha, Bool.and_self, lV_yes, lE_yes, gV_yes, iE_yes, lf_one hn hsum] at D1
        have D2 := Lib.hid (fun W => lift_any x y a1 a2 b1 b2 c1 c2 qc1 qc2 qc3 qc1 qc2 qc3 qc1 qc2 qc3 W)
        simp only [u3, hs, ha, Bool.and_self, lV_yes, lE_yes, gV_yes, iE_yes, lf_one hn hsum] at D2
        have hin := (wg_in (x := x) (y := y) hA).1
        rw [show wg (ar a1 a2 b1 b2 c1 c2) (ar x y b1 b2 c1 c2) = wA x y a1 a2 b1 b2 c1 c2 from rfl, show wg (ar a1 a2 b1 b2 c1 c2) (ar x y c1 c2 a1 a2) = wB x y a1 a2 b1 b2 c1 c2 from rfl, show wg (ar a1 a2 b1 b2 c1 c2) (ar x y a1 a2 b1 b2) = wC x y a1 a2 b1 b2 c1 c2 from rfl] at hin
        have bx0 : 0 ≤ r1 a1 a2 b1 b2 c1 c2 x y → min (min qa1 qb1) qc1 ≤ lf (wA x y a1 a2 b1 b2 c1 c2) (wB x y a1 a2 b1 b2 c1 c2) (wC x y a1 a2 b1 b2 c1 c2) (wW a1 a2 b1 b2 c1 c2) qa1 qb1 qc1 ∧ lf (wA x y a1 a2 b1 b2 c1 c2) (wB x y a1 a2 b1 b2 c1 c2) (wC x y a1 a2 b1 b2 c1 c2) (wW a1 a2 b1 b2 c1 c2) qa1 qb1 qc1 ≤ max (max qa1 qb1) qc1 := fun h => lf_box hn hsum (hin.1 h).1 (hin.1 h).2.1 (hin.1 h).2.2
        have bx1 : 0 ≤ r1 a1 a2 b1 b2 c1 c2 x y → min (min qa2 qb2) qc2 ≤ lf (wA x y a1 a2 b1 b2 c1 c2) (wB x y a1 a2 b1 b2 c1 c2) (wC x y a1 a2 b1 b2 c1 c2) (wW a1 a2 b1 b2 c1 c2) qa2 qb2 qc2 ∧ lf (wA x y a1 a2 b1 b2 c1 c2) (wB x y a1 a2 b1 b2 c1 c2) (wC x y a1 a2 b1 b2 c1 c2) (wW a1 a2 b1 b2 c1 c2) qa2 qb2 qc2 ≤ max (max qa2 qb2) qc2 := fun h => lf_box hn hsum (hin.1 h).1 (hin.1 h).2.1 (hin.1 h).2.2
        have bx2 : 0 ≤ r1 a1 a2 b1 b2 c1 c2 x y → min (min qa3 qb3) qc3 ≤ lf (wA x y a1 a2 b1 b2 c1 c2) (wB x y a1 a2 b1 b2 c1 c2) (wC x y a1 a2 b1 b2 c1 c2) (wW a1 a2 b1 b2 c1 c2) qa3 qb3 qc3 ∧ lf (wA x y a1 a2 b1 b2 c1 c2) (wB x y a1 a2 b1 b2 c1 c2) (wC x y a1 a2 b1 b2 c1 c2) (wW a1 a2 b1 b2 c1 c2) qa3 qb3 qc3 ≤ max (max qa3 qb3) qc3 := fun h => lf_box hn hsum (hin.1 h).1 (hin.1 h).2.1 (hin.1 h).2.2
        generalize lf (wA x y a1 a2 b1 b2 c1 c2) (wB x y a1 a2 b1 b2 c1 c2) (wC x y a1 a2 b1 b2 c1 c2) (wW a1 a2 b1 b2 c1 c2) qa1 qb1 qc1 = v0 at *
        generalize lf (wA x y a1 a2 b1 b2 c1 c2) (wB x y a1 a2 b1 b2 c1 c2) (wC x y a1 a2 b1 b2 c1 c2) (wW a1 a2 b1 b2 c1 c2) qa2 qb2 qc2 = v1 at *
        generalize lf (wA x y a1 a2 b1 b2 c1 c2) (wB x y a1 a2 b1 b2 c1 c2) (wC x y a1 a2 b1 b2 c1 c2) (wW a1 a2 b1 b2 c1 c2) qa3 qb3 qc3 = v2 at *
        have hrb := in_bd a1 a2 b1 b2 c1 c2 x y
        generalize r1 a1 a2 b1 b2 c1 c2 x y = r at *
        clear hs ha hu u1 u2 u3 h1 h2 h3 hA hn hsum hin
        have BX := Lib.hid (And.intro bx0 (And.intro bx1 (And.intro bx2 hrb)))
        clear bx0 bx1 bx2 hrb
        go_enter Try.func7, Try.ntmps7
        go_upto_region 1 with fail
        have hbp := below_new1 w (.cells #[.int .i64 x, .int .i64 y] 23)
        have zp : (w.alloc (.cells #[.int .i64 x, .int .i64 y] 23)).heap.size = w.heap.size + 1 := by simp
        have HB := Lib.hid hbp
        have kp := Lib.hid (Lok.new w 23 #[.int .i64 x, .int .i64 y])
        clear hbp
        generalize w.alloc (.cells #[.int .i64 x, .int .i64 y] 23) = Vp at *
        have hbt := below_new1 Vp (.cells #[.int .i64 a1, .int .i64 a2, .int .i64 b1, .int .i64 b2, .int .i64 c1, .int .i64 c2] 24)
        replace kp := Lib.hid (kp.out.keep hbt)
        have zt : (Vp.alloc (.cells #[.int .i64 a1, .int .i64 a2, .int .i64 b1, .int .i64 b2, .int .i64 c1, .int .i64 c2] 24)).heap.size = Vp.heap.size + 1 := by simp
        replace HB := Lib.hid (HB.out.trans (hbt.mono HB.out.size))
        have kt := Lib.hid (Lok.new Vp 24 #[.int .i64 a1, .int .i64 a2, .int .i64 b1, .int .i64 b2, .int .i64 c1, .int .i64 c2])
        clear hbt
        generalize Vp.alloc (.cells #[.int .i64 a1, .int .i64 a2, .int .i64 b1, .int .i64 b2, .int .i64 c1, .int .i64 c2] 24) = Vt at *
        rw [zp] at kt zt
        have hbs := below_new1 Vt (.cells #[.int .i64 qa1, .int .i64 qa2, .int .i64 qa3, .int .i64 qb1, .int .i64 qb2, .int .i64 qb3, .int .i64 qc1, .int .i64 qc2, .int .i64 qc3] 27)
        replace kp := Lib.hid (kp.out.keep hbs)
        replace kt := Lib.hid (kt.out.keep hbs)
        have zs : (Vt.alloc (.cells #[.int .i64 qa1, .int .i64 qa2, .int .i64 qa3, .int .i64 qb1, .int .i64 qb2, .int .i64 qb3, .int .i64 qc1, .int .i64 qc2, .int .i64 qc3] 27)).heap.size = Vt.heap.size + 1 := by simp
        replace HB := Lib.hid (HB.out.trans (hbs.mono HB.out.size))
        have ks := Lib.hid (Lok.new Vt 27 #[.int .i64 qa1, .int .i64 qa2, .int .i64 qa3, .int .i64 qb1, .int .i64 qb2, .int .i64 qb3, .int .i64 qc1, .int .i64 qc2, .int .i64 qc3])
        clear hbs
        generalize Vt.alloc (.cells #[.int .i64 qa1, .int .i64 qa2, .int .i64 qa3, .int .i64 qb1, .int .i64 qb2, .int .i64 qb3, .int .i64 qc1, .int .i64 qc2, .int .i64 qc3] 27) = Vs at *
        rw [zt] at ks
        clear zp zt zs
        have p0 := kp.out.cell (i := 0) rfl
        have p1 := kp.out.cell (i := 1) rfl
        have t0 := kt.out.cell (i := 0) rfl
        have t1 := kt.out.cell (i := 1) rfl
        have t2 := kt.out.cell (i := 2) rfl
        have t3 := kt.out.cell (i := 3) rfl
        have t4 := kt.out.cell (i := 4) rfl
        have t5 := kt.out.cell (i := 5) rfl
        have s0 := ks.out.cell (i := 0) rfl
        have s1 := ks.out.cell (i := 1) rfl
        have s2 := ks.out.cell (i := 2) rfl
        have s3 := ks.out.cell (i := 3) rfl
        have s4 := ks.out.cell (i := 4) rfl
        have s5 := ks.out.cell (i := 5) rfl
        have s6 := ks.out.cell (i := 6) rfl
        have s7 := ks.out.cell (i := 7) rfl
        have s8 := ks.out.cell (i := 8) rfl
        go_wp2_with fail
        clear p0 p1 t0 t1 t2 t3 t4 t5 s0 s1 s2 s3 s4 s5 s6 s7 s8
        (((with_reducible refine (L1.out _).mono ?_); rintro e w1 ⟨rfl, hb1⟩); replace HB := Lib.hid (HB.out.trans (hb1.mono HB.out.size)); replace kp := Lib.hid (kp.out.keep hb1); replace kt := Lib.hid (kt.out.keep hb1); replace ks := Lib.hid (ks.out.keep hb1); clear hb1)
        go_upto_region 2 with fail
        have hbm := below_new1 w1 (.cells #[.int .i64 v0, .int .i64 v1, .int .i64 v2] 26)
        replace kp := Lib.hid (kp.out.keep hbm)
        replace kt := Lib.hid (kt.out.keep hbm)
        replace ks := Lib.hid (ks.out.keep hbm)
        have zm : (w1.alloc (.cells #[.int .i64 v0, .int .i64 v1, .int .i64 v2] 26)).heap.size = w1.heap.size + 1 := by simp
        replace HB := Lib.hid (HB.out.trans (hbm.mono HB.out.size))
        have km := Lib.hid (Lok.new w1 26 #[.int .i64 v0, .int .i64 v1, .int .i64 v2])
        clear hbm
        generalize w1.alloc (.cells #[.int .i64 v0, .int .i64 v1, .int .i64 v2] 26) = Vm at *
        clear zm
        generalize w1.heap.size = gm at *
        go_wp2_with fail
        have H0 := HB
        clear HB L1
        go_loopw [9] (fun x wr => ∃ j : Nat, x = .int .i64 j ∧ j ≤ 3 ∧ Below Vm.heap.size Vm wr) (fun x _ => 3 - (intOf x).toNat)
        case atStart => exact ⟨0, rfl, Nat.zero_le _, Below.refl _ _⟩
        case round =>
          obtain ⟨j, rfl, hj, hB0⟩ := hrel
          replace kp := Lib.hid (kp.out.keep hB0)
          replace kt := Lib.hid (kt.out.keep hB0)
          replace ks := Lib.hid (ks.out.keep hB0)
          replace km := Lib.hid (km.out.keep hB0)
          have HB := Lib.hid (H0.out.trans (hB0.mono H0.out.size))
          have H1 := Lib.hid hB0
          clear hB0
          rcases (show j = 0 ∨ j = 1 ∨ j = 2 ∨ j = 3 by omega) with rfl | rfl | rfl | rfl
          · go_upto_region 7 with fail
            refine wp_region_rel (by kernel_rfl) [35, 36, 37, 38, 39, 40, 41, 42, 43, 10, 11] ?Fr4 ?hFr4
              (fun L u W => Below wr.heap.size wr W ∧ (L 0 = true → u 36 = .int .i64 0) ∧ (L 1 = true → u 37 = .pointer (some ⟨w.heap.size + 1, 0, none⟩)) ∧ (L 2 = true → u 38 = .agg #[.int .i64 a1, .int .i64 a2]) ∧ (L 3 = true → u 39 = .agg #[.int .i64 a1, .int .i64 a2, .int .i64 b1, .int .i64 b2, .int .i64 c1, .int .i64 c2]) ∧ (L 4 = true → u 40 = .agg #[.int .i64 qa1, .int .i64 qa2, .int .i64 qa3, .int .i64 qb1, .int .i64 qb2, .int .i64 qb3, .int .i64 qc1, .int .i64 qc2, .int .i64 qc3]) ∧ (L 5 = true → u 41 = .tuple #[.agg #[.int .i64 qa1, .int .i64 qa2, .int .i64 qa3], .int .i64 0]) ∧ (L 6 = true → u 35 = .tuple #[.agg #[.int .i64 qa1, .int .i64 qa2, .int .i64 qa3], .int .i64 0]) ∧ (L 7 = true → u 42 = .agg #[.int .i64 qa1, .int .i64 qa2, .int .i64 qa3]) ∧ (L 8 = true → u 43 = .int .i64 0) ∧ (L 11 = true → u 11 = .int .i64 0) ∧ (L 9 = true → ∃ (g : Nat) (x9_0 x9_1 x9_2 : Value), u 10 = .pointer (some ⟨g, 0, none⟩) ∧ wr.heap.size ≤ g ∧ Lok W g 26 #[x9_0, x9_1, x9_2] ∧ (L 10 = true → x9_0 = .int .i64 qa1 ∧ x9_1 = .int .i64 qa2 ∧ x9_2 = .int .i64 qa3)) ∧ (L 10 = true → L 9 = true)) (by kernel_rfl) (by kernel_rfl) 12 rfl ?h0r4 ?stepr4 ?finr4
            case hFr4 => intro u; simp only [putAll, Act.put, List.setIfInBounds_toArray, List.set]; exact rfl
            case h0r4 => intro L u hL; exact ⟨(Below.refl _ _).drew, (fun h => by simp [hL] at h), (fun h => by simp [hL] at h), (fun h => by simp [hL] at h), (fun h => by simp [hL] at h), (fun h => by simp [hL] at h), (fun h => by simp [hL] at h), (fun h => by simp [hL] at h), (fun h => by simp [hL] at h), (fun h => by simp [hL] at h), (fun h => by simp [hL] at h), (fun h => by simp [hL] at h), (fun h => by simp [hL] at h)⟩
            case stepr4 =>
              refine ops_all (ops_cons ?s0r4 (ops_cons ?s1r4 (ops_cons ?s2r4 (ops_cons ?s3r4 (ops_cons ?s4r4 (ops_cons ?s5r4 (ops_cons ?s6r4 (ops_cons ?s7r4 (ops_cons ?s8r4 (ops_cons ?s9r4 (ops_cons ?s10r4 (ops_cons ?s11r4 (ops_nil)))))))))))))
              case s0r4 =>
                rintro L u W ⟨hB, c0, c1, c2, c3, c4, c5, c6, c7, c8, c11, c9, d10⟩ hf hd K hK
                dsimp only at hK
                clear hd
                go_simp
                refine hK _ _ ?_ (fun h => by cases h)
                intro s hs
                cases hs
                exact ⟨hB, (fun _ => rfl), c1, c2, c3, c4, c5, c6, c7, c8, c11, c9, d10⟩
              case s1r4 =>
                rintro L u W ⟨hB, c0, c1, c2, c3, c4, c5, c6, c7, c8, c11, c9, d10⟩ hf hd K hK
                dsimp only at hK
                have hd0 : L 0 = true := (by first | (refine hd ⟨0, .data⟩ ?_ rfl; simp; done) | (refine hd ⟨0, .guard⟩ ?_ rfl; simp; done) | (refine hd ⟨0, .phase⟩ ?_ rfl; simp; done) | (refine hd ⟨0, .chain⟩ ?_ rfl; simp; done))
                have e0 := c0 hd0
                rw [e0] at hK
                clear hd0
                clear hd
                go_simp
                refine hK _ _ ?_ (fun h => by cases h)
                intro s hs
                cases hs
                exact ⟨hB, c0, (fun _ => rfl), c2, c3, c4, c5, c6, c7, c8, c11, c9, d10⟩
              case s2r4 =>
                rintro L u W ⟨hB, c0, c1, c2, c3, c4, c5, c6, c7, c8, c11, c9, d10⟩ hf hd K hK
                dsimp only at hK
                have hd1 : L 1 = true := (by first | (refine hd ⟨1, .data⟩ ?_ rfl; simp; done) | (refine hd ⟨1, .guard⟩ ?_ rfl; simp; done) | (refine hd ⟨1, .phase⟩ ?_ rfl; simp; done) | (refine hd ⟨1, .chain⟩ ?_ rfl; simp; done))
                have e1 := c1 hd1
                rw [e1] at hK
                have t0 := (kt.out.keep hB).cell (i := 0) rfl
                have t1 := (kt.out.keep hB).cell (i := 1) rfl
                clear hd1
                clear hd
                go_simp
                refine hK _ _ ?_ (fun h => by cases h)
                intro s hs
                cases hs
                exact ⟨hB, c0, c1, (fun _ => rfl), c3, c4, c5, c6, c7, c8, c11, c9, d10⟩
              case s3r4 =>
                rintro L u W ⟨hB, c0, c1, c2, c3, c4, c5, c6, c7, c8, c11, c9, d10⟩ hf hd K hK
                dsimp only at hK
                have t0 := (kt.out.keep hB).cell (i := 0) rfl
                have t1 := (kt.out.keep hB).cell (i := 1) rfl
                have t2 := (kt.out.keep hB).cell (i := 2) rfl
                have t3 := (kt.out.keep hB).cell (i := 3) rfl
                have t4 := (kt.out.keep hB).cell (i := 4) rfl
                have t5 := (kt.out.keep hB).cell (i := 5) rfl
                clear hd
                go_simp
                refine hK _ _ ?_ (fun h => by cases h)
                intro s hs
                cases hs
                exact ⟨hB, c0, c1, c2, (fun _ => rfl), c4, c5, c6, c7, c8, c11, c9, d10⟩
              case s4r4 =>
                rintro L u W ⟨hB, c0, c1, c2, c3, c4, c5, c6, c7, c8, c11, c9, d10⟩ hf hd K hK
                dsimp only at hK
                have t0 := (ks.out.keep hB).cell (i := 0) rfl
                have t1 := (ks.out.keep hB).cell (i := 1) rfl
                have t2 := (ks.out.keep hB).cell (i := 2) rfl
                have t3 := (ks.out.keep hB).cell (i := 3) rfl
                have t4 := (ks.out.keep hB).cell (i := 4) rfl
                have t5 := (ks.out.keep hB).cell (i := 5) rfl
                have t6 := (ks.out.keep hB).cell (i := 6) rfl
                have t7 := (ks.out.keep hB).cell (i := 7) rfl
                have t8 := (ks.out.keep hB).cell (i := 8) rfl
                clear hd
                go_simp
                refine hK _ _ ?_ (fun h => by cases h)
                intro s hs
                cases hs
                exact ⟨hB, c0, c1, c2, c3, (fun _ => rfl), c5, c6, c7, c8, c11, c9, d10⟩
              case s5r4 =>
                rintro L u W ⟨hB, c0, c1, c2, c3, c4, c5, c6, c7, c8, c11, c9, d10⟩ hf hd K hK
                dsimp only at hK
                have hd2 : L 2 = true := (by first | (refine hd ⟨2, .data⟩ ?_ rfl; simp; done) | (refine hd ⟨2, .guard⟩ ?_ rfl; simp; done) | (refine hd ⟨2, .phase⟩ ?_ rfl; simp; done) | (refine hd ⟨2, .chain⟩ ?_ rfl; simp; done))
                have hd3 : L 3 = true := (by first | (refine hd ⟨3, .data⟩ ?_ rfl; simp; done) | (refine hd ⟨3, .guard⟩ ?_ rfl; simp; done) | (refine hd ⟨3, .phase⟩ ?_ rfl; simp; done) | (refine hd ⟨3, .chain⟩ ?_ rfl; simp; done))
                have hd4 : L 4 = true := (by first | (refine hd ⟨4, .data⟩ ?_ rfl; simp; done) | (refine hd ⟨4, .guard⟩ ?_ rfl; simp; done) | (refine hd ⟨4, .phase⟩ ?_ rfl; simp; done) | (refine hd ⟨4, .chain⟩ ?_ rfl; simp; done))
                have e2 := c2 hd2
                rw [e2] at hK
                have e3 := c3 hd3
                rw [e3] at hK
                have e4 := c4 hd4
                rw [e4] at hK
                clear hd2
                clear hd3
                clear hd4
                clear hd
                go_simp
                go_wp2_with (go_at_call 14; ((with_reducible refine (C0.out _).mono ?_); rintro e w5 ⟨rfl, hb⟩))
                refine hK _ _ ?_ (fun h => by cases h)
                intro s hs
                cases hs
                exact ⟨hB.trans (hb.mono hB.size), c0, c1, c2, c3, c4, (fun _ => rfl), c6, c7, c8, c11, (fun h => by obtain ⟨g, x9_0, x9_1, x9_2, k1, k2, k3, k4⟩ := c9 h; exact ⟨g, x9_0, x9_1, x9_2, k1, k2, k3.keep hb, k4⟩), d10⟩
              case s6r4 =>
                rintro L u W ⟨hB, c0, c1, c2, c3, c4, c5, c6, c7, c8, c11, c9, d10⟩ hf hd K hK
                dsimp only at hK
                have hd5 : L 5 = true := (by first | (refine hd ⟨5, .data⟩ ?_ rfl; simp; done) | (refine hd ⟨5, .guard⟩ ?_ rfl; simp; done) | (refine hd ⟨5, .phase⟩ ?_ rfl; simp; done) | (refine hd ⟨5, .chain⟩ ?_ rfl; simp; done))
                have e5 := c5 hd5
                rw [e5] at hK
                clear hd5
                clear hd
                go_simp
                refine hK _ _ ?_ (fun h => by cases h)
                intro s hs
                cases hs
                exact ⟨hB, c0, c1, c2, c3, c4, c5, (fun _ => rfl), c7, c8, c11, c9, d10⟩
              case s7r4 =>
                rintro L u W ⟨hB, c0, c1, c2, c3, c4, c5, c6, c7, c8, c11, c9, d10⟩ hf hd K hK
                dsimp only at hK
                have hd6 : L 6 = true := (by first | (refine hd ⟨6, .data⟩ ?_ rfl; simp; done) | (refine hd ⟨6, .guard⟩ ?_ rfl; simp; done) | (refine hd ⟨6, .phase⟩ ?_ rfl; simp; done) | (refine hd ⟨6, .chain⟩ ?_ rfl; simp; done))
                have e6 := c6 hd6
                rw [e6] at hK
                clear hd6
                clear hd
                go_simp
                refine hK _ _ ?_ (fun h => by cases h)
                intro s hs
                cases hs
                exact ⟨hB, c0, c1, c2, c3, c4, c5, c6, (fun _ => rfl), c8, c11, c9, d10⟩
              case s8r4 =>
                rintro L u W ⟨hB, c0, c1, c2, c3, c4, c5, c6, c7, c8, c11, c9, d10⟩ hf hd K hK
                dsimp only at hK
                have hd6 : L 6 = true := (by first | (refine hd ⟨6, .data⟩ ?_ rfl; simp; done) | (refine hd ⟨6, .guard⟩ ?_ rfl; simp; done) | (refine hd ⟨6, .phase⟩ ?_ rfl; simp; done) | (refine hd ⟨6, .chain⟩ ?_ rfl; simp; done))
                have e6 := c6 hd6
                rw [e6] at hK
                clear hd6
                clear hd
                go_simp
                refine hK _ _ ?_ (fun h => by cases h)
                intro s hs
                cases hs
                exact ⟨hB, c0, c1, c2, c3, c4, c5, c6, c7, (fun _ => rfl), c11, c9, d10⟩
              case s9r4 =>
                rintro L u W ⟨hB, c0, c1, c2, c3, c4, c5, c6, c7, c8, c11, c9, d10⟩ hf hd K hK
                dsimp only at hK
                go_simp
                have hb : Below W.heap.size W (W.alloc (.cells #[.int .i64 0, .int .i64 0, .int .i64 0] 26)) := (Below.refl _ W).alloc (Nat.le_refl _) _
                refine hK _ _ ?_ (fun h => by cases h)
                intro s hs
                cases hs
                exact ⟨hB.trans (hb.mono hB.size), c0, c1, c2, c3, c4, c5, c6, c7, c8, c11, (fun _ => ⟨_, _, _, _, rfl, hB.size, Lok.new _ _ _, fun h => absurd (d10 h) (by rw [hf]; decide)⟩), (fun _ => rfl)⟩
              case s10r4 =>
                rintro L u W ⟨hB, c0, c1, c2, c3, c4, c5, c6, c7, c8, c11, c9, d10⟩ hf hd K hK
                dsimp only at hK
                have hd9 : L 9 = true := hd ⟨9, .data⟩ (by simp) rfl
                have hd7 : L 7 = true := (by first | (refine hd ⟨7, .data⟩ ?_ rfl; simp; done) | (refine hd ⟨7, .guard⟩ ?_ rfl; simp; done) | (refine hd ⟨7, .phase⟩ ?_ rfl; simp; done) | (refine hd ⟨7, .chain⟩ ?_ rfl; simp; done))
                obtain ⟨g, x9_0, x9_1, x9_2, e9, k2, k3, k4⟩ := c9 hd9
                rw [e9] at hK
                have e7 := c7 hd7
                rw [e7] at hK
                have t0 := k3.cell (i := 0) rfl
                have f0 := k3.frozen 0
                have t1 := k3.cell (i := 1) rfl
                have f1 := k3.frozen 1
                have t2 := k3.cell (i := 2) rfl
                have f2 := k3.frozen 2
                have HH := Lib.hid (And.intro trivial trivial)
                clear hd
                have hd9' := Lib.hid hd9
                clear hd9
                have hd7' := Lib.hid hd7
                clear hd7
                go_simp
                have hd9 := hd9'.out
                have hd7 := hd7'.out
                have hlok := ((k3.set (i := 0) (v := .int .i64 qa1)).set (i := 1) (v := .int .i64 qa2)).set (i := 2) (v := .int .i64 qa3)
                refine hK undef _ (fun s h => by cases h) (fun _ => ?_)
                exact ⟨((hB.setCell k2 _).setCell k2 _).setCell k2 _, c0, c1, c2, c3, c4, c5, c6, (fun _ => rfl), c8, c11, (fun _ => ⟨g, _, _, _, rfl, k2, hlok, fun _ => ⟨rfl, rfl, rfl⟩⟩), (fun _ => hd9)⟩
              case s11r4 =>
                rintro L u W ⟨hB, c0, c1, c2, c3, c4, c5, c6, c7, c8, c11, c9, d10⟩ hf hd K hK
                dsimp only at hK
                have hd8 : L 8 = true := (by first | (refine hd ⟨8, .data⟩ ?_ rfl; simp; done) | (refine hd ⟨8, .guard⟩ ?_ rfl; simp; done) | (refine hd ⟨8, .phase⟩ ?_ rfl; simp; done) | (refine hd ⟨8, .chain⟩ ?_ rfl; simp; done))
                have e8 := c8 hd8
                rw [e8] at hK
                clear hd8
                clear hd
                go_simp
                refine hK _ _ ?_ (fun h => by cases h)
                intro s hs
                cases hs
                exact ⟨hB, c0, c1, c2, c3, c4, c5, c6, c7, c8, (fun _ => rfl), c9, d10⟩
            case finr4 =>
              rintro L u W hL ⟨hB, c0, c1, c2, c3, c4, c5, c6, c7, c8, c11, c9, d10⟩
              have e0 := c0 (hL 0 (by decide))
              have e1 := c1 (hL 1 (by decide))
              have e2 := c2 (hL 2 (by decide))
              have e3 := c3 (hL 3 (by decide))
              have e4 := c4 (hL 4 (by decide))
              have e5 := c5 (hL 5 (by decide))
              have e6 := c6 (hL 6 (by decide))
              have e7 := c7 (hL 7 (by decide))
              have e8 := c8 (hL 8 (by decide))
              have e11 := c11 (hL 11 (by decide))
              obtain ⟨g9, x9_0, x9_1, x9_2, e9, hg9, hlok9, hst9⟩ := c9 (hL 9 (by decide))
              obtain ⟨rfl, rfl, rfl⟩ := hst9 (hL 10 (by decide))
              clear hst9
              clear hL c0 c1 c2 c3 c4 c5 c6 c7 c8 c11 c9 d10
              try simp only [e0, e1, e2, e3, e4, e5, e6, e7, e8, e11, e9]
              clear e0 e1 e2 e3 e4 e5 e6 e7 e8 e11 e9
              obtain ⟨X1, rfl⟩ : ∃ X, X = W := ⟨_, rfl⟩
              replace H1 := Lib.hid (H1.out.trans (hB.mono H1.out.size))
              replace HB := Lib.hid (HB.out.trans (hB.mono HB.out.size))
              replace kp := Lib.hid (kp.out.keep hB)
              replace kt := Lib.hid (kt.out.keep hB)
              replace ks := Lib.hid (ks.out.keep hB)
              replace km := Lib.hid (km.out.keep hB)
              have kf := Lib.hid hlok9
              clear hlok9 hB
              go_upto_region 8 with fail
              refine wp_region_rel (by kernel_rfl) [44, 45, 46, 47, 48, 49, 50, 51, 52, 53, 54, 55, 56, 57, 58, 59, 12, 13] ?Fr1 ?hFr1
                (fun L u W => Below X1.heap.size X1 W ∧ (L 0 = true → u 45 = .agg #[.int .i64 x, .int .i64 y]) ∧ (L 1 = true → u 46 = .agg #[.int .i64 a1, .int .i64 a2, .int .i64 b1, .int .i64 b2, .int .i64 c1, .int .i64 c2]) ∧ (L 2 = true → u 47 = .int .i64 0) ∧ (L 3 = true → u 48 = .pointer (some ⟨w.heap.size + 2, 0, none⟩)) ∧ (L 4 = true → u 49 = .agg #[.int .i64 qa1, .int .i64 qa2, .int .i64 qa3]) ∧ (L 5 = true → u 50 = .int .i64 0) ∧ (L 6 = true → u 51 = .pointer (some ⟨w.heap.size + 2, 0, none⟩)) ∧ (L 7 = true → u 52 = .agg #[.int .i64 qa1, .int .i64 qa2, .int .i64 qa3]) ∧ (L 8 = true → u 53 = .int .i64 0) ∧ (L 9 = true → u 54 = .pointer (some ⟨w.heap.size + 2, 0, none⟩)) ∧ (L 10 = true → u 55 = .agg #[.int .i64 qa1, .int .i64 qa2, .int .i64 qa3]) ∧ (L 11 = true → u 56 = .agg #[.int .i64 qa1, .int .i64 qa2, .int .i64 qa3, .int .i64 qa1, .int .i64 qa2, .int .i64 qa3, .int .i64 qa1, .int .i64 qa2, .int .i64 qa3]) ∧ (L 12 = true → u 57 = .tuple #[.agg #[.int .i64 qa1, .int .i64 qa2, .int .i64 qa3], .int .i64 0]) ∧ (L 13 = true → u 44 = .tuple #[.agg #[.int .i64 qa1, .int .i64 qa2, .int .i64 qa3], .int .i64 0]) ∧ (L 14 = true → u 58 = .agg #[.int .i64 qa1, .int .i64 qa2, .int .i64 qa3]) ∧ (L 15 = true → u 59 = .int .i64 0) ∧ (L 18 = true → u 13 = .int .i64 0) ∧ (L 16 = true → ∃ (g : Nat) (x16_0 x16_1 x16_2 : Value), u 12 = .pointer (some ⟨g, 0, none⟩) ∧ X1.heap.size ≤ g ∧ Lok W g 26 #[x16_0, x16_1, x16_2] ∧ (L 17 = true → x16_0 = .int .i64 qa1 ∧ x16_1 = .int .i64 qa2 ∧ x16_2 = .int .i64 qa3)) ∧ (L 17 = true → L 16 = true)) (by kernel_rfl) (by kernel_rfl) 19 rfl ?h0r1 ?stepr1 ?finr1
              case hFr1 => intro u; simp only [putAll, Act.put, List.setIfInBounds_toArray, List.set]; exact rfl
              case h0r1 => intro L u hL; exact ⟨(Below.refl _ _).drew, (fun h => by simp [hL] at h), (fun h => by simp [hL] at h), (fun h => by simp [hL] at h), (fun h => by simp [hL] at h), (fun h => by simp [hL] at h), (fun h => by simp [hL] at h), (fun h => by simp [hL] at h), (fun h => by simp [hL] at h), (fun h => by simp [hL] at h), (fun h => by simp [hL] at h), (fun h => by simp [hL] at h), (fun h => by simp [hL] at h), (fun h => by simp [hL] at h), (fun h => by simp [hL] at h), (fun h => by simp [hL] at h), (fun h => by simp [hL] at h), (fun h => by simp [hL] at h), (fun h => by simp [hL] at h), (fun h => by simp [hL] at h)⟩
              case stepr1 =>
                refine ops_all (ops_cons ?s0r1 (ops_cons ?s1r1 (ops_cons ?s2r1 (ops_cons ?s3r1 (ops_cons ?s4r1 (ops_cons ?s5r1 (ops_cons ?s6r1 (ops_cons ?s7r1 (ops_cons ?s8r1 (ops_cons ?s9r1 (ops_cons ?s10r1 (ops_cons ?s11r1 (ops_cons ?s12r1 (ops_cons ?s13r1 (ops_cons ?s14r1 (ops_cons ?s15r1 (ops_cons ?s16r1 (ops_cons ?s17r1 (ops_cons ?s18r1 (ops_nil))))))))))))))))))))
                case s0r1 =>
                  rintro L u W ⟨hB, c0, c1, c2, c3, c4, c5, c6, c7, c8, c9, c10, c11, c12, c13, c14, c15, c18, c16, d17⟩ hf hd K hK
                  dsimp only at hK
                  have t0 := (kp.out.keep hB).cell (i := 0) rfl
                  have t1 := (kp.out.keep hB).cell (i := 1) rfl
                  clear hd
                  go_simp
                  refine hK _ _ ?_ (fun h => by cases h)
                  intro s hs
                  cases hs
                  exact ⟨hB, (fun _ => rfl), c1, c2, c3, c4, c5, c6, c7, c8, c9, c10, c11, c12, c13, c14, c15, c18, c16, d17⟩
                case s1r1 =>
                  rintro L u W ⟨hB, c0, c1, c2, c3, c4, c5, c6, c7, c8, c9, c10, c11, c12, c13, c14, c15, c18, c16, d17⟩ hf hd K hK
                  dsimp only at hK
                  have t0 := (kt.out.keep hB).cell (i := 0) rfl
                  have t1 := (kt.out.keep hB).cell (i := 1) rfl
                  have t2 := (kt.out.keep hB).cell (i := 2) rfl
                  have t3 := (kt.out.keep hB).cell (i := 3) rfl
                  have t4 := (kt.out.keep hB).cell (i := 4) rfl
                  have t5 := (kt.out.keep hB).cell (i := 5) rfl
                  clear hd
                  go_simp
                  refine hK _ _ ?_ (fun h => by cases h)
                  intro s hs
                  cases hs
                  exact ⟨hB, c0, (fun _ => rfl), c2, c3, c4, c5, c6, c7, c8, c9, c10, c11, c12, c13, c14, c15, c18, c16, d17⟩
                case s2r1 =>
                  rintro L u W ⟨hB, c0, c1, c2, c3, c4, c5, c6, c7, c8, c9, c10, c11, c12, c13, c14, c15, c18, c16, d17⟩ hf hd K hK
                  dsimp only at hK
                  clear hd
                  go_simp
                  refine hK _ _ ?_ (fun h => by cases h)
                  intro s hs
                  cases hs
                  exact ⟨hB, c0, c1, (fun _ => rfl), c3, c4, c5, c6, c7, c8, c9, c10, c11, c12, c13, c14, c15, c18, c16, d17⟩
                case s3r1 =>
                  rintro L u W ⟨hB, c0, c1, c2, c3, c4, c5, c6, c7, c8, c9, c10, c11, c12, c13, c14, c15, c18, c16, d17⟩ hf hd K hK
                  dsimp only at hK
                  have hd2 : L 2 = true := (by first | (refine hd ⟨2, .data⟩ ?_ rfl; simp; done) | (refine hd ⟨2, .guard⟩ ?_ rfl; simp; done) | (refine hd ⟨2, .phase⟩ ?_ rfl; simp; done) | (refine hd ⟨2, .chain⟩ ?_ rfl; simp; done))
                  have e2 := c2 hd2
                  rw [e2] at hK
                  clear hd2
                  clear hd
                  go_simp
                  refine hK _ _ ?_ (fun h => by cases h)
                  intro s hs
                  cases hs
                  exact ⟨hB, c0, c1, c2, (fun _ => rfl), c4, c5, c6, c7, c8, c9, c10, c11, c12, c13, c14, c15, c18, c16, d17⟩
                case s4r1 =>
                  rintro L u W ⟨hB, c0, c1, c2, c3, c4, c5, c6, c7, c8, c9, c10, c11, c12, c13, c14, c15, c18, c16, d17⟩ hf hd K hK
                  dsimp only at hK
                  have hd3 : L 3 = true := (by first | (refine hd ⟨3, .data⟩ ?_ rfl; simp; done) | (refine hd ⟨3, .guard⟩ ?_ rfl; simp; done) | (refine hd ⟨3, .phase⟩ ?_ rfl; simp; done) | (refine hd ⟨3, .chain⟩ ?_ rfl; simp; done))
                  have e3 := c3 hd3
                  rw [e3] at hK
                  have t0 := (ks.out.keep hB).cell (i := 0) rfl
                  have t1 := (ks.out.keep hB).cell (i := 1) rfl
                  have t2 := (ks.out.keep hB).cell (i := 2) rfl
                  clear hd3
                  clear hd
                  go_simp
                  refine hK _ _ ?_ (fun h => by cases h)
                  intro s hs
                  cases hs
                  exact ⟨hB, c0, c1, c2, c3, (fun _ => rfl), c5, c6, c7, c8, c9, c10, c11, c12, c13, c14, c15, c18, c16, d17⟩
                case s5r1 =>
                  rintro L u W ⟨hB, c0, c1, c2, c3, c4, c5, c6, c7, c8, c9, c10, c11, c12, c13, c14, c15, c18, c16, d17⟩ hf hd K hK
                  dsimp only at hK
                  clear hd
                  go_simp
                  refine hK _ _ ?_ (fun h => by cases h)
                  intro s hs
                  cases hs
                  exact ⟨hB, c0, c1, c2, c3, c4, (fun _ => rfl), c6, c7, c8, c9, c10, c11, c12, c13, c14, c15, c18, c16, d17⟩
                case s6r1 =>
                  rintro L u W ⟨hB, c0, c1, c2, c3, c4, c5, c6, c7, c8, c9, c10, c11, c12, c13, c14, c15, c18, c16, d17⟩ hf hd K hK
                  dsimp only at hK
                  have hd5 : L 5 = true := (by first | (refine hd ⟨5, .data⟩ ?_ rfl; simp; done) | (refine hd ⟨5, .guard⟩ ?_ rfl; simp; done) | (refine hd ⟨5, .phase⟩ ?_ rfl; simp; done) | (refine hd ⟨5, .chain⟩ ?_ rfl; simp; done))
                  have e5 := c5 hd5
                  rw [e5] at hK
                  clear hd5
                  clear hd
                  go_simp
                  refine hK _ _ ?_ (fun h => by cases h)
                  intro s hs
                  cases hs
                  exact ⟨hB, c0, c1, c2, c3, c4, c5, (fun _ => rfl), c7, c8, c9, c10, c11, c12, c13, c14, c15, c18, c16, d17⟩
                case s7r1 =>
                  rintro L u W ⟨hB, c0, c1, c2, c3, c4, c5, c6, c7, c8, c9, c10, c11, c12, c13, c14, c15, c18, c16, d17⟩ hf hd K hK
                  dsimp only at hK
                  have hd6 : L 6 = true := (by first | (refine hd ⟨6, .data⟩ ?_ rfl; simp; done) | (refine hd ⟨6, .guard⟩ ?_ rfl; simp; done) | (refine hd ⟨6, .phase⟩ ?_ rfl; simp; done) | (refine hd ⟨6, .chain⟩ ?_ rfl; simp; done))
                  have e6 := c6 hd6
                  rw [e6] at hK
                  have t0 := (ks.out.keep hB).cell (i := 0) rfl
                  have t1 := (ks.out.keep hB).cell (i := 1) rfl
                  have t2 := (ks.out.keep hB).cell (i := 2) rfl
                  clear hd6
                  clear hd
                  go_simp
                  refine hK _ _ ?_ (fun h => by cases h)
                  intro s hs
                  cases hs
                  exact ⟨hB, c0, c1, c2, c3, c4, c5, c6, (fun _ => rfl), c8, c9, c10, c11, c12, c13, c14, c15, c18, c16, d17⟩
                case s8r1 =>
                  rintro L u W ⟨hB, c0, c1, c2, c3, c4, c5, c6, c7, c8, c9, c10, c11, c12, c13, c14, c15, c18, c16, d17⟩ hf hd K hK
                  dsimp only at hK
                  clear hd
                  go_simp
                  refine hK _ _ ?_ (fun h => by cases h)
                  intro s hs
                  cases hs
                  exact ⟨hB, c0, c1, c2, c3, c4, c5, c6, c7, (fun _ => rfl), c9, c10, c11, c12, c13, c14, c15, c18, c16, d17⟩
                case s9r1 =>
                  rintro L u W ⟨hB, c0, c1, c2, c3, c4, c5, c6, c7, c8, c9, c10, c11, c12, c13, c14, c15, c18, c16, d17⟩ hf hd K hK
                  dsimp only at hK
                  have hd8 : L 8 = true := (by first | (refine hd ⟨8, .data⟩ ?_ rfl; simp; done) | (refine hd ⟨8, .guard⟩ ?_ rfl; simp; done) | (refine hd ⟨8, .phase⟩ ?_ rfl; simp; done) | (refine hd ⟨8, .chain⟩ ?_ rfl; simp; done))
                  have e8 := c8 hd8
                  rw [e8] at hK
                  clear hd8
                  clear hd
                  go_simp
                  refine hK _ _ ?_ (fun h => by cases h)
                  intro s hs
                  cases hs
                  exact ⟨hB, c0, c1, c2, c3, c4, c5, c6, c7, c8, (fun _ => rfl), c10, c11, c12, c13, c14, c15, c18, c16, d17⟩
                case s10r1 =>
                  rintro L u W ⟨hB, c0, c1, c2, c3, c4, c5, c6, c7, c8, c9, c10, c11, c12, c13, c14, c15, c18, c16, d17⟩ hf hd K hK
                  dsimp only at hK
                  have hd9 : L 9 = true := (by first | (refine hd ⟨9, .data⟩ ?_ rfl; simp; done) | (refine hd ⟨9, .guard⟩ ?_ rfl; simp; done) | (refine hd ⟨9, .phase⟩ ?_ rfl; simp; done) | (refine hd ⟨9, .chain⟩ ?_ rfl; simp; done))
                  have e9 := c9 hd9
                  rw [e9] at hK
                  have t0 := (ks.out.keep hB).cell (i := 0) rfl
                  have t1 := (ks.out.keep hB).cell (i := 1) rfl
                  have t2 := (ks.out.keep hB).cell (i := 2) rfl
                  clear hd9
                  clear hd
                  go_simp
                  refine hK _ _ ?_ (fun h => by cases h)
                  intro s hs
                  cases hs
                  exact ⟨hB, c0, c1, c2, c3, c4, c5, c6, c7, c8, c9, (fun _ => rfl), c11, c12, c13, c14, c15, c18, c16, d17⟩
                case s11r1 =>
                  rintro L u W ⟨hB, c0, c1, c2, c3, c4, c5, c6, c7, c8, c9, c10, c11, c12, c13, c14, c15, c18, c16, d17⟩ hf hd K hK
                  dsimp only at hK
                  have hd4 : L 4 = true := (by first | (refine hd ⟨4, .data⟩ ?_ rfl; simp; done) | (refine hd ⟨4, .guard⟩ ?_ rfl; simp; done) | (refine hd ⟨4, .phase⟩ ?_ rfl; simp; done) | (refine hd ⟨4, .chain⟩ ?_ rfl; simp; done))
                  have hd7 : L 7 = true := (by first | (refine hd ⟨7, .data⟩ ?_ rfl; simp; done) | (refine hd ⟨7, .guard⟩ ?_ rfl; simp; done) | (refine hd ⟨7, .phase⟩ ?_ rfl; simp; done) | (refine hd ⟨7, .chain⟩ ?_ rfl; simp; done))
                  have hd10 : L 10 = true := (by first | (refine hd ⟨10, .data⟩ ?_ rfl; simp; done) | (refine hd ⟨10, .guard⟩ ?_ rfl; simp; done) | (refine hd ⟨10, .phase⟩ ?_ rfl; simp; done) | (refine hd ⟨10, .chain⟩ ?_ rfl; simp; done))
                  have e4 := c4 hd4
                  rw [e4] at hK
                  have e7 := c7 hd7
                  rw [e7] at hK
                  have e10 := c10 hd10
                  rw [e10] at hK
                  clear hd4
                  clear hd7
                  clear hd10
                  clear hd
                  go_simp
                  refine hK _ _ ?_ (fun h => by cases h)
                  intro s hs
                  cases hs
                  exact ⟨hB, c0, c1, c2, c3, c4, c5, c6, c7, c8, c9, c10, (fun _ => rfl), c12, c13, c14, c15, c18, c16, d17⟩
                case s12r1 =>
                  rintro L u W ⟨hB, c0, c1, c2, c3, c4, c5, c6, c7, c8, c9, c10, c11, c12, c13, c14, c15, c18, c16, d17⟩ hf hd K hK
                  dsimp only at hK
                  have hd0 : L 0 = true := (by first | (refine hd ⟨0, .data⟩ ?_ rfl; simp; done) | (refine hd ⟨0, .guard⟩ ?_ rfl; simp; done) | (refine hd ⟨0, .phase⟩ ?_ rfl; simp; done) | (refine hd ⟨0, .chain⟩ ?_ rfl; simp; done))
                  have hd1 : L 1 = true := (by first | (refine hd ⟨1, .data⟩ ?_ rfl; simp; done) | (refine hd ⟨1, .guard⟩ ?_ rfl; simp; done) | (refine hd ⟨1, .phase⟩ ?_ rfl; simp; done) | (refine hd ⟨1, .chain⟩ ?_ rfl; simp; done))
                  have hd11 : L 11 = true := (by first | (refine hd ⟨11, .data⟩ ?_ rfl; simp; done) | (refine hd ⟨11, .guard⟩ ?_ rfl; simp; done) | (refine hd ⟨11, .phase⟩ ?_ rfl; simp; done) | (refine hd ⟨11, .chain⟩ ?_ rfl; simp; done))
                  have e0 := c0 hd0
                  rw [e0] at hK
                  have e1 := c1 hd1
                  rw [e1] at hK
                  have e11 := c11 hd11
                  rw [e11] at hK
                  clear hd0
                  clear hd1
                  clear hd11
                  clear hd
                  go_simp
                  go_wp2_with (go_at_call 14; ((with_reducible refine (D0.out _).mono ?_); rintro e w5 ⟨rfl, hb⟩))
                  refine hK _ _ ?_ (fun h => by cases h)
                  intro s hs
                  cases hs
                  exact ⟨hB.trans (hb.mono hB.size), c0, c1, c2, c3, c4, c5, c6, c7, c8, c9, c10, c11, (fun _ => rfl), c13, c14, c15, c18, (fun h => by obtain ⟨g, x16_0, x16_1, x16_2, k1, k2, k3, k4⟩ := c16 h; exact ⟨g, x16_0, x16_1, x16_2, k1, k2, k3.keep hb, k4⟩), d17⟩
                case s13r1 =>
                  rintro L u W ⟨hB, c0, c1, c2, c3, c4, c5, c6, c7, c8, c9, c10, c11, c12, c13, c14, c15, c18, c16, d17⟩ hf hd K hK
                  dsimp only at hK
                  have hd12 : L 12 = true := (by first | (refine hd ⟨12, .data⟩ ?_ rfl; simp; done) | (refine hd ⟨12, .guard⟩ ?_ rfl; simp; done) | (refine hd ⟨12, .phase⟩ ?_ rfl; simp; done) | (refine hd ⟨12, .chain⟩ ?_ rfl; simp; done))
                  have e12 := c12 hd12
                  rw [e12] at hK
                  clear hd12
                  clear hd
                  go_simp
                  refine hK _ _ ?_ (fun h => by cases h)
                  intro s hs
                  cases hs
                  exact ⟨hB, c0, c1, c2, c3, c4, c5, c6, c7, c8, c9, c10, c11, c12, (fun _ => rfl), c14, c15, c18, c16, d17⟩
                case s14r1 =>
                  rintro L u W ⟨hB, c0, c1, c2, c3, c4, c5, c6, c7, c8, c9, c10, c11, c12, c13, c14, c15, c18, c16, d17⟩ hf hd K hK
                  dsimp only at hK
                  have hd13 : L 13 = true := (by first | (refine hd ⟨13, .data⟩ ?_ rfl; simp; done) | (refine hd ⟨13, .guard⟩ ?_ rfl; simp; done) | (refine hd ⟨13, .phase⟩ ?_ rfl; simp; done) | (refine hd ⟨13, .chain⟩ ?_ rfl; simp; done))
                  have e13 := c13 hd13
                  rw [e13] at hK
                  clear hd13
                  clear hd
                  go_simp
                  refine hK _ _ ?_ (fun h => by cases h)
                  intro s hs
                  cases hs
                  exact ⟨hB, c0, c1, c2, c3, c4, c5, c6, c7, c8, c9, c10, c11, c12, c13, (fun _ => rfl), c15, c18, c16, d17⟩
                case s15r1 =>
                  rintro L u W ⟨hB, c0, c1, c2, c3, c4, c5, c6, c7, c8, c9, c10, c11, c12, c13, c14, c15, c18, c16, d17⟩ hf hd K hK
                  dsimp only at hK
                  have hd13 : L 13 = true := (by first | (refine hd ⟨13, .data⟩ ?_ rfl; simp; done) | (refine hd ⟨13, .guard⟩ ?_ rfl; simp; done) | (refine hd ⟨13, .phase⟩ ?_ rfl; simp; done) | (refine hd ⟨13, .chain⟩ ?_ rfl; simp; done))
                  have e13 := c13 hd13
                  rw [e13] at hK
                  clear hd13
                  clear hd
                  go_simp
                  refine hK _ _ ?_ (fun h => by cases h)
                  intro s hs
                  cases hs
                  exact ⟨hB, c0, c1, c2, c3, c4, c5, c6, c7, c8, c9, c10, c11, c12, c13, c14, (fun _ => rfl), c18, c16, d17⟩
                case s16r1 =>
                  rintro L u W ⟨hB, c0, c1, c2, c3, c4, c5, c6, c7, c8, c9, c10, c11, c12, c13, c14, c15, c18, c16, d17⟩ hf hd K hK
                  dsimp only at hK
                  go_simp
                  have hb : Below W.heap.size W (W.alloc (.cells #[.int .i64 0, .int .i64 0, .int .i64 0] 26)) := (Below.refl _ W).alloc (Nat.le_refl _) _
                  refine hK _ _ ?_ (fun h => by cases h)
                  intro s hs
                  cases hs
                  exact ⟨hB.trans (hb.mono hB.size), c0, c1, c2, c3, c4, c5, c6, c7, c8, c9, c10, c11, c12, c13, c14, c15, c18, (fun _ => ⟨_, _, _, _, rfl, hB.size, Lok.new _ _ _, fun h => absurd (d17 h) (by rw [hf]; decide)⟩), (fun _ => rfl)⟩
                case s17r1 =>
                  rintro L u W ⟨hB, c0, c1, c2, c3, c4, c5, c6, c7, c8, c9, c10, c11, c12, c13, c14, c15, c18, c16, d17⟩ hf hd K hK
                  dsimp only at hK
                  have hd16 : L 16 = true := hd ⟨16, .data⟩ (by simp) rfl
                  have hd14 : L 14 = true := (by first | (refine hd ⟨14, .data⟩ ?_ rfl; simp; done) | (refine hd ⟨14, .guard⟩ ?_ rfl; simp; done) | (refine hd ⟨14, .phase⟩ ?_ rfl; simp; done) | (refine hd ⟨14, .chain⟩ ?_ rfl; simp; done))
                  obtain ⟨g, x16_0, x16_1, x16_2, e16, k2, k3, k4⟩ := c16 hd16
                  rw [e16] at hK
                  have e14 := c14 hd14
                  rw [e14] at hK
                  have t0 := k3.cell (i := 0) rfl
                  have f0 := k3.frozen 0
                  have t1 := k3.cell (i := 1) rfl
                  have f1 := k3.frozen 1
                  have t2 := k3.cell (i := 2) rfl
                  have f2 := k3.frozen 2
                  have HH := Lib.hid (And.intro trivial trivial)
                  clear hd
                  have hd16' := Lib.hid hd16
                  clear hd16
                  have hd14' := Lib.hid hd14
                  clear hd14
                  go_simp
                  have hd16 := hd16'.out
                  have hd14 := hd14'.out
                  have hlok := ((k3.set (i := 0) (v := .int .i64 qa1)).set (i := 1) (v := .int .i64 qa2)).set (i := 2) (v := .int .i64 qa3)
                  refine hK undef _ (fun s h => by cases h) (fun _ => ?_)
                  exact ⟨((hB.setCell k2 _).setCell k2 _).setCell k2 _, c0, c1, c2, c3, c4, c5, c6, c7, c8, c9, c10, c11, c12, c13, (fun _ => rfl), c15, c18, (fun _ => ⟨g, _, _, _, rfl, k2, hlok, fun _ => ⟨rfl, rfl, rfl⟩⟩), (fun _ => hd16)⟩
                case s18r1 =>
                  rintro L u W ⟨hB, c0, c1, c2, c3, c4, c5, c6, c7, c8, c9, c10, c11, c12, c13, c14, c15, c18, c16, d17⟩ hf hd K hK
                  dsimp only at hK
                  have hd15 : L 15 = true := (by first | (refine hd ⟨15, .data⟩ ?_ rfl; simp; done) | (refine hd ⟨15, .guard⟩ ?_ rfl; simp; done) | (refine hd ⟨15, .phase⟩ ?_ rfl; simp; done) | (refine hd ⟨15, .chain⟩ ?_ rfl; simp; done))
                  have e15 := c15 hd15
                  rw [e15] at hK
                  clear hd15
                  clear hd
                  go_simp
                  refine hK _ _ ?_ (fun h => by cases h)
                  intro s hs
                  cases hs
                  exact ⟨hB, c0, c1, c2, c3, c4, c5, c6, c7, c8, c9, c10, c11, c12, c13, c14, c15, (fun _ => rfl), c16, d17⟩
              case finr1 =>
                rintro L u W hL ⟨hB, c0, c1, c2, c3, c4, c5, c6, c7, c8, c9, c10, c11, c12, c13, c14, c15, c18, c16, d17⟩
                have e0 := c0 (hL 0 (by decide))
                have e1 := c1 (hL 1 (by decide))
                have e2 := c2 (hL 2 (by decide))
                have e3 := c3 (hL 3 (by decide))
                have e4 := c4 (hL 4 (by decide))
                have e5 := c5 (hL 5 (by decide))
                have e6 := c6 (hL 6 (by decide))
                have e7 := c7 (hL 7 (by decide))
                have e8 := c8 (hL 8 (by decide))
                have e9 := c9 (hL 9 (by decide))
                have e10 := c10 (hL 10 (by decide))
                have e11 := c11 (hL 11 (by decide))
                have e12 := c12 (hL 12 (by decide))
                have e13 := c13 (hL 13 (by decide))
                have e14 := c14 (hL 14 (by decide))
                have e15 := c15 (hL 15 (by decide))
                have e18 := c18 (hL 18 (by decide))
                obtain ⟨g16, x16_0, x16_1, x16_2, e16, hg16, hlok16, hst16⟩ := c16 (hL 16 (by decide))
                obtain ⟨rfl, rfl, rfl⟩ := hst16 (hL 17 (by decide))
                clear hst16
                clear hL c0 c1 c2 c3 c4 c5 c6 c7 c8 c9 c10 c11 c12 c13 c14 c15 c18 c16 d17
                try simp only [e0, e1, e2, e3, e4, e5, e6, e7, e8, e9, e10, e11, e12, e13, e14, e15, e18, e16]
                clear e0 e1 e2 e3 e4 e5 e6 e7 e8 e9 e10 e11 e12 e13 e14 e15 e18 e16
                obtain ⟨X2, rfl⟩ : ∃ X, X = W := ⟨_, rfl⟩
                replace H1 := Lib.hid (H1.out.trans (hB.mono H1.out.size))
                replace HB := Lib.hid (HB.out.trans (hB.mono HB.out.size))
                replace kp := Lib.hid (kp.out.keep hB)
                replace kt := Lib.hid (kt.out.keep hB)
                replace ks := Lib.hid (ks.out.keep hB)
                replace km := Lib.hid (km.out.keep hB)
                replace kf := Lib.hid (kf.out.keep hB)
                have kg := Lib.hid hlok16
                clear hlok16
                go_upto_region 9 with fail
                clear hB
                have qs0 : ∀ D : Of (PastV X2), _ := fun D => (ks.out.keep (show Below X2.heap.size X2 D.world from D.holds)).cell (i := 0) rfl
                have qs1 : ∀ D : Of (PastV X2), _ := fun D => (ks.out.keep (show Below X2.heap.size X2 D.world from D.holds)).cell (i := 1) rfl
                have qs2 : ∀ D : Of (PastV X2), _ := fun D => (ks.out.keep (show Below X2.heap.size X2 D.world from D.holds)).cell (i := 2) rfl
                have qs3 : ∀ D : Of (PastV X2), _ := fun D => (ks.out.keep (show Below X2.heap.size X2 D.world from D.holds)).cell (i := 3) rfl
                have qs4 : ∀ D : Of (PastV X2), _ := fun D => (ks.out.keep (show Below X2.heap.size X2 D.world from D.holds)).cell (i := 4) rfl
                have qs5 : ∀ D : Of (PastV X2), _ := fun D => (ks.out.keep (show Below X2.heap.size X2 D.world from D.holds)).cell (i := 5) rfl
                have qs6 : ∀ D : Of (PastV X2), _ := fun D => (ks.out.keep (show Below X2.heap.size X2 D.world from D.holds)).cell (i := 6) rfl
                have qs7 : ∀ D : Of (PastV X2), _ := fun D => (ks.out.keep (show Below X2.heap.size X2 D.world from D.holds)).cell (i := 7) rfl
                have qs8 : ∀ D : Of (PastV X2), _ := fun D => (ks.out.keep (show Below X2.heap.size X2 D.world from D.holds)).cell (i := 8) rfl
                have qf0 : ∀ D : Of (PastV X2), _ := fun D => (kf.out.keep (show Below X2.heap.size X2 D.world from D.holds)).cell (i := 0) rfl
                have qf1 : ∀ D : Of (PastV X2), _ := fun D => (kf.out.keep (show Below X2.heap.size X2 D.world from D.holds)).cell (i := 1) rfl
                have qf2 : ∀ D : Of (PastV X2), _ := fun D => (kf.out.keep (show Below X2.heap.size X2 D.world from D.holds)).cell (i := 2) rfl
                have qg0 : ∀ D : Of (PastV X2), _ := fun D => (kg.out.keep (show Below X2.heap.size X2 D.world from D.holds)).cell (i := 0) rfl
                have qg1 : ∀ D : Of (PastV X2), _ := fun D => (kg.out.keep (show Below X2.heap.size X2 D.world from D.holds)).cell (i := 1) rfl
                have qg2 : ∀ D : Of (PastV X2), _ := fun D => (kg.out.keep (show Below X2.heap.size X2 D.world from D.holds)).cell (i := 2) rfl
                have ST := Lib.hid (pastV_stays X2)
                have ne : Nonempty (Of (PastV X2)) := ⟨⟨X2, Below.refl _ _⟩⟩
                refine wp_region_class (S := PastV X2) (by kernel_rfl) (by kernel_rfl) (Below.refl _ _).drew ?_
                repeat (go_big_quiet_step (fail))
                refine wpQuiet_nil ?_
                rintro _ ⟨D, rfl⟩
                have hD : Below X2.heap.size X2 D.world := D.holds
                have H2 := Lib.hid (H1.out.trans (hD.mono H1.out.size))
                replace HB := Lib.hid (HB.out.trans (hD.mono HB.out.size))
                replace kp := Lib.hid (kp.out.keep hD)
                replace kt := Lib.hid (kt.out.keep hD)
                replace ks := Lib.hid (ks.out.keep hD)
                replace km := Lib.hid (km.out.keep hD)
                replace kf := Lib.hid (kf.out.keep hD)
                replace kg := Lib.hid (kg.out.keep hD)
                generalize D.world = vd at *
                clear qs0 qs1 qs2 qs3 qs4 qs5 qs6 qs7 qs8 qf0 qf1 qf2 qg0 qg1 qg2 ne ST hD
                go_wp2
                go_roundw
                case rel => exact ⟨1, rfl, by omega, H2.out⟩
                case measure => simp [intOf]
          · go_upto_region 7 with fail
            refine wp_region_rel (by kernel_rfl) [35, 36, 37, 38, 39, 40, 41, 42, 43, 10, 11] ?Fr5 ?hFr5
              (fun L u W => Below wr.heap.size wr W ∧ (L 0 = true → u 36 = .int .i64 1) ∧ (L 1 = true → u 37 = .pointer (some ⟨w.heap.size + 1, 2, none⟩)) ∧ (L 2 = true → u 38 = .agg #[.int .i64 b1, .int .i64 b2]) ∧ (L 3 = true → u 39 = .agg #[.int .i64 a1, .int .i64 a2, .int .i64 b1, .int .i64 b2, .int .i64 c1, .int .i64 c2]) ∧ (L 4 = true → u 40 = .agg #[.int .i64 qa1, .int .i64 qa2, .int .i64 qa3, .int .i64 qb1, .int .i64 qb2, .int .i64 qb3, .int .i64 qc1, .int .i64 qc2, .int .i64 qc3]) ∧ (L 5 = true → u 41 = .tuple #[.agg #[.int .i64 qb1, .int .i64 qb2, .int .i64 qb3], .int .i64 0]) ∧ (L 6 = true → u 35 = .tuple #[.agg #[.int .i64 qb1, .int .i64 qb2, .int .i64 qb3], .int .i64 0]) ∧ (L 7 = true → u 42 = .agg #[.int .i64 qb1, .int .i64 qb2, .int .i64 qb3]) ∧ (L 8 = true → u 43 = .int .i64 0) ∧ (L 11 = true → u 11 = .int .i64 0) ∧ (L 9 = true → ∃ (g : Nat) (x9_0 x9_1 x9_2 : Value), u 10 = .pointer (some ⟨g, 0, none⟩) ∧ wr.heap.size ≤ g ∧ Lok W g 26 #[x9_0, x9_1, x9_2] ∧ (L 10 = true → x9_0 = .int .i64 qb1 ∧ x9_1 = .int .i64 qb2 ∧ x9_2 = .int .i64 qb3)) ∧ (L 10 = true → L 9 = true)) (by kernel_rfl) (by kernel_rfl) 12 rfl ?h0r5 ?stepr5 ?finr5
            case hFr5 => intro u; simp only [putAll, Act.put, List.setIfInBounds_toArray, List.set]; exact rfl
            case h0r5 => intro L u hL; exact ⟨(Below.refl _ _).drew, (fun h => by simp [hL] at h), (fun h => by simp [hL] at h), (fun h => by simp [hL] at h), (fun h => by simp [hL] at h), (fun h => by simp [hL] at h), (fun h => by simp [hL] at h), (fun h => by simp [hL] at h), (fun h => by simp [hL] at h), (fun h => by simp [hL] at h), (fun h => by simp [hL] at h), (fun h => by simp [hL] at h), (fun h => by simp [hL] at h)⟩
            case stepr5 =>
              refine ops_all (ops_cons ?s0r5 (ops_cons ?s1r5 (ops_cons ?s2r5 (ops_cons ?s3r5 (ops_cons ?s4r5 (ops_cons ?s5r5 (ops_cons ?s6r5 (ops_cons ?s7r5 (ops_cons ?s8r5 (ops_cons ?s9r5 (ops_cons ?s10r5 (ops_cons ?s11r5 (ops_nil)))))))))))))
              case s0r5 =>
                rintro L u W ⟨hB, c0, c1, c2, c3, c4, c5, c6, c7, c8, c11, c9, d10⟩ hf hd K hK
                dsimp only at hK
                clear hd
                go_simp
                refine hK _ _ ?_ (fun h => by cases h)
                intro s hs
                cases hs
                exact ⟨hB, (fun _ => rfl), c1, c2, c3, c4, c5, c6, c7, c8, c11, c9, d10⟩
              case s1r5 =>
                rintro L u W ⟨hB, c0, c1, c2, c3, c4, c5, c6, c7, c8, c11, c9, d10⟩ hf hd K hK
                dsimp only at hK
                have hd0 : L 0 = true := (by first | (refine hd ⟨0, .data⟩ ?_ rfl; simp; done) | (refine hd ⟨0, .guard⟩ ?_ rfl; simp; done) | (refine hd ⟨0, .phase⟩ ?_ rfl; simp; done) | (refine hd ⟨0, .chain⟩ ?_ rfl; simp; done))
                have e0 := c0 hd0
                rw [e0] at hK
                clear hd0
                clear hd
                go_simp
                refine hK _ _ ?_ (fun h => by cases h)
                intro s hs
                cases hs
                exact ⟨hB, c0, (fun _ => rfl), c2, c3, c4, c5, c6, c7, c8, c11, c9, d10⟩
              case s2r5 =>
                rintro L u W ⟨hB, c0, c1, c2, c3, c4, c5, c6, c7, c8, c11, c9, d10⟩ hf hd K hK
                dsimp only at hK
                have hd1 : L 1 = true := (by first | (refine hd ⟨1, .data⟩ ?_ rfl; simp; done) | (refine hd ⟨1, .guard⟩ ?_ rfl; simp; done) | (refine hd ⟨1, .phase⟩ ?_ rfl; simp; done) | (refine hd ⟨1, .chain⟩ ?_ rfl; simp; done))
                have e1 := c1 hd1
                rw [e1] at hK
                have t0 := (kt.out.keep hB).cell (i := 2) rfl
                have t1 := (kt.out.keep hB).cell (i := 3) rfl
                clear hd1
                clear hd
                go_simp
                refine hK _ _ ?_ (fun h => by cases h)
                intro s hs
                cases hs
                exact ⟨hB, c0, c1, (fun _ => rfl), c3, c4, c5, c6, c7, c8, c11, c9, d10⟩
              case s3r5 =>
                rintro L u W ⟨hB, c0, c1, c2, c3, c4, c5, c6, c7, c8, c11, c9, d10⟩ hf hd K hK
                dsimp only at hK
                have t0 := (kt.out.keep hB).cell (i := 0) rfl
                have t1 := (kt.out.keep hB).cell (i := 1) rfl
                have t2 := (kt.out.keep hB).cell (i := 2) rfl
                have t3 := (kt.out.keep hB).cell (i := 3) rfl
                have t4 := (kt.out.keep hB).cell (i := 4) rfl
                have t5 := (kt.out.keep hB).cell (i := 5) rfl
                clear hd
                go_simp
                refine hK _ _ ?_ (fun h => by cases h)
                intro s hs
                cases hs
                exact ⟨hB, c0, c1, c2, (fun _ => rfl), c4, c5, c6, c7, c8, c11, c9, d10⟩
              case s4r5 =>
                rintro L u W ⟨hB, c0, c1, c2, c3, c4, c5, c6, c7, c8, c11, c9, d10⟩ hf hd K hK
                dsimp only at hK
                have t0 := (ks.out.keep hB).cell (i := 0) rfl
                have t1 := (ks.out.keep hB).cell (i := 1) rfl
                have t2 := (ks.out.keep hB).cell (i := 2) rfl
                have t3 := (ks.out.keep hB).cell (i := 3) rfl
                have t4 := (ks.out.keep hB).cell (i := 4) rfl
                have t5 := (ks.out.keep hB).cell (i := 5) rfl
                have t6 := (ks.out.keep hB).cell (i := 6) rfl
                have t7 := (ks.out.keep hB).cell (i := 7) rfl
                have t8 := (ks.out.keep hB).cell (i := 8) rfl
                clear hd
                go_simp
                refine hK _ _ ?_ (fun h => by cases h)
                intro s hs
                cases hs
                exact ⟨hB, c0, c1, c2, c3, (fun _ => rfl), c5, c6, c7, c8, c11, c9, d10⟩
              case s5r5 =>
                rintro L u W ⟨hB, c0, c1, c2, c3, c4, c5, c6, c7, c8, c11, c9, d10⟩ hf hd K hK
                dsimp only at hK
                have hd2 : L 2 = true := (by first | (refine hd ⟨2, .data⟩ ?_ rfl; simp; done) | (refine hd ⟨2, .guard⟩ ?_ rfl; simp; done) | (refine hd ⟨2, .phase⟩ ?_ rfl; simp; done) | (refine hd ⟨2, .chain⟩ ?_ rfl; simp; done))
                have hd3 : L 3 = true := (by first | (refine hd ⟨3, .data⟩ ?_ rfl; simp; done) | (refine hd ⟨3, .guard⟩ ?_ rfl; simp; done) | (refine hd ⟨3, .phase⟩ ?_ rfl; simp; done) | (refine hd ⟨3, .chain⟩ ?_ rfl; simp; done))
                have hd4 : L 4 = true := (by first | (refine hd ⟨4, .data⟩ ?_ rfl; simp; done) | (refine hd ⟨4, .guard⟩ ?_ rfl; simp; done) | (refine hd ⟨4, .phase⟩ ?_ rfl; simp; done) | (refine hd ⟨4, .chain⟩ ?_ rfl; simp; done))
                have e2 := c2 hd2
                rw [e2] at hK
                have e3 := c3 hd3
                rw [e3] at hK
                have e4 := c4 hd4
                rw [e4] at hK
                clear hd2
                clear hd3
                clear hd4
                clear hd
                go_simp
                go_wp2_with (go_at_call 14; ((with_reducible refine (C1.out _).mono ?_); rintro e w5 ⟨rfl, hb⟩))
                refine hK _ _ ?_ (fun h => by cases h)
                intro s hs
                cases hs
                exact ⟨hB.trans (hb.mono hB.size), c0, c1, c2, c3, c4, (fun _ => rfl), c6, c7, c8, c11, (fun h => by obtain ⟨g, x9_0, x9_1, x9_2, k1, k2, k3, k4⟩ := c9 h; exact ⟨g, x9_0, x9_1, x9_2, k1, k2, k3.keep hb, k4⟩), d10⟩
              case s6r5 =>
                rintro L u W ⟨hB, c0, c1, c2, c3, c4, c5, c6, c7, c8, c11, c9, d10⟩ hf hd K hK
                dsimp only at hK
                have hd5 : L 5 = true := (by first | (refine hd ⟨5, .data⟩ ?_ rfl; simp; done) | (refine hd ⟨5, .guard⟩ ?_ rfl; simp; done) | (refine hd ⟨5, .phase⟩ ?_ rfl; simp; done) | (refine hd ⟨5, .chain⟩ ?_ rfl; simp; done))
                have e5 := c5 hd5
                rw [e5] at hK
                clear hd5
                clear hd
                go_simp
                refine hK _ _ ?_ (fun h => by cases h)
                intro s hs
                cases hs
                exact ⟨hB, c0, c1, c2, c3, c4, c5, (fun _ => rfl), c7, c8, c11, c9, d10⟩
              case s7r5 =>
                rintro L u W ⟨hB, c0, c1, c2, c3, c4, c5, c6, c7, c8, c11, c9, d10⟩ hf hd K hK
                dsimp only at hK
                have hd6 : L 6 = true := (by first | (refine hd ⟨6, .data⟩ ?_ rfl; simp; done) | (refine hd ⟨6, .guard⟩ ?_ rfl; simp; done) | (refine hd ⟨6, .phase⟩ ?_ rfl; simp; done) | (refine hd ⟨6, .chain⟩ ?_ rfl; simp; done))
                have e6 := c6 hd6
                rw [e6] at hK
                clear hd6
                clear hd
                go_simp
                refine hK _ _ ?_ (fun h => by cases h)
                intro s hs
                cases hs
                exact ⟨hB, c0, c1, c2, c3, c4, c5, c6, (fun _ => rfl), c8, c11, c9, d10⟩
              case s8r5 =>
                rintro L u W ⟨hB, c0, c1, c2, c3, c4, c5, c6, c7, c8, c11, c9, d10⟩ hf hd K hK
                dsimp only at hK
                have hd6 : L 6 = true := (by first | (refine hd ⟨6, .data⟩ ?_ rfl; simp; done) | (refine hd ⟨6, .guard⟩ ?_ rfl; simp; done) | (refine hd ⟨6, .phase⟩ ?_ rfl; simp; done) | (refine hd ⟨6, .chain⟩ ?_ rfl; simp; done))
                have e6 := c6 hd6
                rw [e6] at hK
                clear hd6
                clear hd
                go_simp
                refine hK _ _ ?_ (fun h => by cases h)
                intro s hs
                cases hs
                exact ⟨hB, c0, c1, c2, c3, c4, c5, c6, c7, (fun _ => rfl), c11, c9, d10⟩
              case s9r5 =>
                rintro L u W ⟨hB, c0, c1, c2, c3, c4, c5, c6, c7, c8, c11, c9, d10⟩ hf hd K hK
                dsimp only at hK
                go_simp
                have hb : Below W.heap.size W (W.alloc (.cells #[.int .i64 0, .int .i64 0, .int .i64 0] 26)) := (Below.refl _ W).alloc (Nat.le_refl _) _
                refine hK _ _ ?_ (fun h => by cases h)
                intro s hs
                cases hs
                exact ⟨hB.trans (hb.mono hB.size), c0, c1, c2, c3, c4, c5, c6, c7, c8, c11, (fun _ => ⟨_, _, _, _, rfl, hB.size, Lok.new _ _ _, fun h => absurd (d10 h) (by rw [hf]; decide)⟩), (fun _ => rfl)⟩
              case s10r5 =>
                rintro L u W ⟨hB, c0, c1, c2, c3, c4, c5, c6, c7, c8, c11, c9, d10⟩ hf hd K hK
                dsimp only at hK
                have hd9 : L 9 = true := hd ⟨9, .data⟩ (by simp) rfl
                have hd7 : L 7 = true := (by first | (refine hd ⟨7, .data⟩ ?_ rfl; simp; done) | (refine hd ⟨7, .guard⟩ ?_ rfl; simp; done) | (refine hd ⟨7, .phase⟩ ?_ rfl; simp; done) | (refine hd ⟨7, .chain⟩ ?_ rfl; simp; done))
                obtain ⟨g, x9_0, x9_1, x9_2, e9, k2, k3, k4⟩ := c9 hd9
                rw [e9] at hK
                have e7 := c7 hd7
                rw [e7] at hK
                have t0 := k3.cell (i := 0) rfl
                have f0 := k3.frozen 0
                have t1 := k3.cell (i := 1) rfl
                have f1 := k3.frozen 1
                have t2 := k3.cell (i := 2) rfl
                have f2 := k3.frozen 2
                have HH := Lib.hid (And.intro trivial trivial)
                clear hd
                have hd9' := Lib.hid hd9
                clear hd9
                have hd7' := Lib.hid hd7
                clear hd7
                go_simp
                have hd9 := hd9'.out
                have hd7 := hd7'.out
                have hlok := ((k3.set (i := 0) (v := .int .i64 qb1)).set (i := 1) (v := .int .i64 qb2)).set (i := 2) (v := .int .i64 qb3)
                refine hK undef _ (fun s h => by cases h) (fun _ => ?_)
                exact ⟨((hB.setCell k2 _).setCell k2 _).setCell k2 _, c0, c1, c2, c3, c4, c5, c6, (fun _ => rfl), c8, c11, (fun _ => ⟨g, _, _, _, rfl, k2, hlok, fun _ => ⟨rfl, rfl, rfl⟩⟩), (fun _ => hd9)⟩
              case s11r5 =>
                rintro L u W ⟨hB, c0, c1, c2, c3, c4, c5, c6, c7, c8, c11, c9, d10⟩ hf hd K hK
                dsimp only at hK
                have hd8 : L 8 = true := (by first | (refine hd ⟨8, .data⟩ ?_ rfl; simp; done) | (refine hd ⟨8, .guard⟩ ?_ rfl; simp; done) | (refine hd ⟨8, .phase⟩ ?_ rfl; simp; done) | (refine hd ⟨8, .chain⟩ ?_ rfl; simp; done))
                have e8 := c8 hd8
                rw [e8] at hK
                clear hd8
                clear hd
                go_simp
                refine hK _ _ ?_ (fun h => by cases h)
                intro s hs
                cases hs
                exact ⟨hB, c0, c1, c2, c3, c4, c5, c6, c7, c8, (fun _ => rfl), c9, d10⟩
            case finr5 =>
              rintro L u W hL ⟨hB, c0, c1, c2, c3, c4, c5, c6, c7, c8, c11, c9, d10⟩
              have e0 := c0 (hL 0 (by decide))
              have e1 := c1 (hL 1 (by decide))
              have e2 := c2 (hL 2 (by decide))
              have e3 := c3 (hL 3 (by decide))
              have e4 := c4 (hL 4 (by decide))
              have e5 := c5 (hL 5 (by decide))
              have e6 := c6 (hL 6 (by decide))
              have e7 := c7 (hL 7 (by decide))
              have e8 := c8 (hL 8 (by decide))
              have e11 := c11 (hL 11 (by decide))
              obtain ⟨g9, x9_0, x9_1, x9_2, e9, hg9, hlok9, hst9⟩ := c9 (hL 9 (by decide))
              obtain ⟨rfl, rfl, rfl⟩ := hst9 (hL 10 (by decide))
              clear hst9
              clear hL c0 c1 c2 c3 c4 c5 c6 c7 c8 c11 c9 d10
              try simp only [e0, e1, e2, e3, e4, e5, e6, e7, e8, e11, e9]
              clear e0 e1 e2 e3 e4 e5 e6 e7 e8 e11 e9
              obtain ⟨X1, rfl⟩ : ∃ X, X = W := ⟨_, rfl⟩
              replace H1 := Lib.hid (H1.out.trans (hB.mono H1.out.size))
              replace HB := Lib.hid (HB.out.trans (hB.mono HB.out.size))
              replace kp := Lib.hid (kp.out.keep hB)
              replace kt := Lib.hid (kt.out.keep hB)
              replace ks := Lib.hid (ks.out.keep hB)
              replace km := Lib.hid (km.out.keep hB)
              have kf := Lib.hid hlok9
              clear hlok9 hB
              go_upto_region 8 with fail
              refine wp_region_rel (by kernel_rfl) [44, 45, 46, 47, 48, 49, 50, 51, 52, 53, 54, 55, 56, 57, 58, 59, 12, 13] ?Fr2 ?hFr2
                (fun L u W => Below X1.heap.size X1 W ∧ (L 0 = true → u 45 = .agg #[.int .i64 x, .int .i64 y]) ∧ (L 1 = true → u 46 = .agg #[.int .i64 a1, .int .i64 a2, .int .i64 b1, .int .i64 b2, .int .i64 c1, .int .i64 c2]) ∧ (L 2 = true → u 47 = .int .i64 1) ∧ (L 3 = true → u 48 = .pointer (some ⟨w.heap.size + 2, 3, none⟩)) ∧ (L 4 = true → u 49 = .agg #[.int .i64 qb1, .int .i64 qb2, .int .i64 qb3]) ∧ (L 5 = true → u 50 = .int .i64 1) ∧ (L 6 = true → u 51 = .pointer (some ⟨w.heap.size + 2, 3, none⟩)) ∧ (L 7 = true → u 52 = .agg #[.int .i64 qb1, .int .i64 qb2, .int .i64 qb3]) ∧ (L 8 = true → u 53 = .int .i64 1) ∧ (L 9 = true → u 54 = .pointer (some ⟨w.heap.size + 2, 3, none⟩)) ∧ (L 10 = true → u 55 = .agg #[.int .i64 qb1, .int .i64 qb2, .int .i64 qb3]) ∧ (L 11 = true → u 56 = .agg #[.int .i64 qb1, .int .i64 qb2, .int .i64 qb3, .int .i64 qb1, .int .i64 qb2, .int .i64 qb3, .int .i64 qb1, .int .i64 qb2, .int .i64 qb3]) ∧ (L 12 = true → u 57 = .tuple #[.agg #[.int .i64 qb1, .int .i64 qb2, .int .i64 qb3], .int .i64 0]) ∧ (L 13 = true → u 44 = .tuple #[.agg #[.int .i64 qb1, .int .i64 qb2, .int .i64 qb3], .int .i64 0]) ∧ (L 14 = true → u 58 = .agg #[.int .i64 qb1, .int .i64 qb2, .int .i64 qb3]) ∧ (L 15 = true → u 59 = .int .i64 0) ∧ (L 18 = true → u 13 = .int .i64 0) ∧ (L 16 = true → ∃ (g : Nat) (x16_0 x16_1 x16_2 : Value), u 12 = .pointer (some ⟨g, 0, none⟩) ∧ X1.heap.size ≤ g ∧ Lok W g 26 #[x16_0, x16_1, x16_2] ∧ (L 17 = true → x16_0 = .int .i64 qb1 ∧ x16_1 = .int .i64 qb2 ∧ x16_2 = .int .i64 qb3)) ∧ (L 17 = true → L 16 = true)) (by kernel_rfl) (by kernel_rfl) 19 rfl ?h0r2 ?stepr2 ?finr2
              case hFr2 => intro u; simp only [putAll, Act.put, List.setIfInBounds_toArray, List.set]; exact rfl
              case h0r2 => intro L u hL; exact ⟨(Below.refl _ _).drew, (fun h => by simp [hL] at h), (fun h => by simp [hL] at h), (fun h => by simp [hL] at h), (fun h => by simp [hL] at h), (fun h => by simp [hL] at h), (fun h => by simp [hL] at h), (fun h => by simp [hL] at h), (fun h => by simp [hL] at h), (fun h => by simp [hL] at h), (fun h => by simp [hL] at h), (fun h => by simp [hL] at h), (fun h => by simp [hL] at h), (fun h => by simp [hL] at h), (fun h => by simp [hL] at h), (fun h => by simp [hL] at h), (fun h => by simp [hL] at h), (fun h => by simp [hL] at h), (fun h => by simp [hL] at h), (fun h => by simp [hL] at h)⟩
              case stepr2 =>
                refine ops_all (ops_cons ?s0r2 (ops_cons ?s1r2 (ops_cons ?s2r2 (ops_cons ?s3r2 (ops_cons ?s4r2 (ops_cons ?s5r2 (ops_cons ?s6r2 (ops_cons ?s7r2 (ops_cons ?s8r2 (ops_cons ?s9r2 (ops_cons ?s10r2 (ops_cons ?s11r2 (ops_cons ?s12r2 (ops_cons ?s13r2 (ops_cons ?s14r2 (ops_cons ?s15r2 (ops_cons ?s16r2 (ops_cons ?s17r2 (ops_cons ?s18r2 (ops_nil))))))))))))))))))))
                case s0r2 =>
                  rintro L u W ⟨hB, c0, c1, c2, c3, c4, c5, c6, c7, c8, c9, c10, c11, c12, c13, c14, c15, c18, c16, d17⟩ hf hd K hK
                  dsimp only at hK
                  have t0 := (kp.out.keep hB).cell (i := 0) rfl
                  have t1 := (kp.out.keep hB).cell (i := 1) rfl
                  clear hd
                  go_simp
                  refine hK _ _ ?_ (fun h => by cases h)
                  intro s hs
                  cases hs
                  exact ⟨hB, (fun _ => rfl), c1, c2, c3, c4, c5, c6, c7, c8, c9, c10, c11, c12, c13, c14, c15, c18, c16, d17⟩
                case s1r2 =>
                  rintro L u W ⟨hB, c0, c1, c2, c3, c4, c5, c6, c7, c8, c9, c10, c11, c12, c13, c14, c15, c18, c16, d17⟩ hf hd K hK
                  dsimp only at hK
                  have t0 := (kt.out.keep hB).cell (i := 0) rfl
                  have t1 := (kt.out.keep hB).cell (i := 1) rfl
                  have t2 := (kt.out.keep hB).cell (i := 2) rfl
                  have t3 := (kt.out.keep hB).cell (i := 3) rfl
                  have t4 := (kt.out.keep hB).cell (i := 4) rfl
                  have t5 := (kt.out.keep hB).cell (i := 5) rfl
                  clear hd
                  go_simp
                  refine hK _ _ ?_ (fun h => by cases h)
                  intro s hs
                  cases hs
                  exact ⟨hB, c0, (fun _ => rfl), c2, c3, c4, c5, c6, c7, c8, c9, c10, c11, c12, c13, c14, c15, c18, c16, d17⟩
                case s2r2 =>
                  rintro L u W ⟨hB, c0, c1, c2, c3, c4, c5, c6, c7, c8, c9, c10, c11, c12, c13, c14, c15, c18, c16, d17⟩ hf hd K hK
                  dsimp only at hK
                  clear hd
                  go_simp
                  refine hK _ _ ?_ (fun h => by cases h)
                  intro s hs
                  cases hs
                  exact ⟨hB, c0, c1, (fun _ => rfl), c3, c4, c5, c6, c7, c8, c9, c10, c11, c12, c13, c14, c15, c18, c16, d17⟩
                case s3r2 =>
                  rintro L u W ⟨hB, c0, c1, c2, c3, c4, c5, c6, c7, c8, c9, c10, c11, c12, c13, c14, c15, c18, c16, d17⟩ hf hd K hK
                  dsimp only at hK
                  have hd2 : L 2 = true := (by first | (refine hd ⟨2, .data⟩ ?_ rfl; simp; done) | (refine hd ⟨2, .guard⟩ ?_ rfl; simp; done) | (refine hd ⟨2, .phase⟩ ?_ rfl; simp; done) | (refine hd ⟨2, .chain⟩ ?_ rfl; simp; done))
                  have e2 := c2 hd2
                  rw [e2] at hK
                  clear hd2
                  clear hd
                  go_simp
                  refine hK _ _ ?_ (fun h => by cases h)
                  intro s hs
                  cases hs
                  exact ⟨hB, c0, c1, c2, (fun _ => rfl), c4, c5, c6, c7, c8, c9, c10, c11, c12, c13, c14, c15, c18, c16, d17⟩
                case s4r2 =>
                  rintro L u W ⟨hB, c0, c1, c2, c3, c4, c5, c6, c7, c8, c9, c10, c11, c12, c13, c14, c15, c18, c16, d17⟩ hf hd K hK
                  dsimp only at hK
                  have hd3 : L 3 = true := (by first | (refine hd ⟨3, .data⟩ ?_ rfl; simp; done) | (refine hd ⟨3, .guard⟩ ?_ rfl; simp; done) | (refine hd ⟨3, .phase⟩ ?_ rfl; simp; done) | (refine hd ⟨3, .chain⟩ ?_ rfl; simp; done))
                  have e3 := c3 hd3
                  rw [e3] at hK
                  have t0 := (ks.out.keep hB).cell (i := 3) rfl
                  have t1 := (ks.out.keep hB).cell (i := 4) rfl
                  have t2 := (ks.out.keep hB).cell (i := 5) rfl
                  clear hd3
                  clear hd
                  go_simp
                  refine hK _ _ ?_ (fun h => by cases h)
                  intro s hs
                  cases hs
                  exact ⟨hB, c0, c1, c2, c3, (fun _ => rfl), c5, c6, c7, c8, c9, c10, c11, c12, c13, c14, c15, c18, c16, d17⟩
                case s5r2 =>
                  rintro L u W ⟨hB, c0, c1, c2, c3, c4, c5, c6, c7, c8, c9, c10, c11, c12, c13, c14, c15, c18, c16, d17⟩ hf hd K hK
                  dsimp only at hK
                  clear hd
                  go_simp
                  refine hK _ _ ?_ (fun h => by cases h)
                  intro s hs
                  cases hs
                  exact ⟨hB, c0, c1, c2, c3, c4, (fun _ => rfl), c6, c7, c8, c9, c10, c11, c12, c13, c14, c15, c18, c16, d17⟩
                case s6r2 =>
                  rintro L u W ⟨hB, c0, c1, c2, c3, c4, c5, c6, c7, c8, c9, c10, c11, c12, c13, c14, c15, c18, c16, d17⟩ hf hd K hK
                  dsimp only at hK
                  have hd5 : L 5 = true := (by first | (refine hd ⟨5, .data⟩ ?_ rfl; simp; done) | (refine hd ⟨5, .guard⟩ ?_ rfl; simp; done) | (refine hd ⟨5, .phase⟩ ?_ rfl; simp; done) | (refine hd ⟨5, .chain⟩ ?_ rfl; simp; done))
                  have e5 := c5 hd5
                  rw [e5] at hK
                  clear hd5
                  clear hd
                  go_simp
                  refine hK _ _ ?_ (fun h => by cases h)
                  intro s hs
                  cases hs
                  exact ⟨hB, c0, c1, c2, c3, c4, c5, (fun _ => rfl), c7, c8, c9, c10, c11, c12, c13, c14, c15, c18, c16, d17⟩
                case s7r2 =>
                  rintro L u W ⟨hB, c0, c1, c2, c3, c4, c5, c6, c7, c8, c9, c10, c11, c12, c13, c14, c15, c18, c16, d17⟩ hf hd K hK
                  dsimp only at hK
                  have hd6 : L 6 = true := (by first | (refine hd ⟨6, .data⟩ ?_ rfl; simp; done) | (refine hd ⟨6, .guard⟩ ?_ rfl; simp; done) | (refine hd ⟨6, .phase⟩ ?_ rfl; simp; done) | (refine hd ⟨6, .chain⟩ ?_ rfl; simp; done))
                  have e6 := c6 hd6
                  rw [e6] at hK
                  have t0 := (ks.out.keep hB).cell (i := 3) rfl
                  have t1 := (ks.out.keep hB).cell (i := 4) rfl
                  have t2 := (ks.out.keep hB).cell (i := 5) rfl
                  clear hd6
                  clear hd
                  go_simp
                  refine hK _ _ ?_ (fun h => by cases h)
                  intro s hs
                  cases hs
                  exact ⟨hB, c0, c1, c2, c3, c4, c5, c6, (fun _ => rfl), c8, c9, c10, c11, c12, c13, c14, c15, c18, c16, d17⟩
                case s8r2 =>
                  rintro L u W ⟨hB, c0, c1, c2, c3, c4, c5, c6, c7, c8, c9, c10, c11, c12, c13, c14, c15, c18, c16, d17⟩ hf hd K hK
                  dsimp only at hK
                  clear hd
                  go_simp
                  refine hK _ _ ?_ (fun h => by cases h)
                  intro s hs
                  cases hs
                  exact ⟨hB, c0, c1, c2, c3, c4, c5, c6, c7, (fun _ => rfl), c9, c10, c11, c12, c13, c14, c15, c18, c16, d17⟩
                case s9r2 =>
                  rintro L u W ⟨hB, c0, c1, c2, c3, c4, c5, c6, c7, c8, c9, c10, c11, c12, c13, c14, c15, c18, c16, d17⟩ hf hd K hK
                  dsimp only at hK
                  have hd8 : L 8 = true := (by first | (refine hd ⟨8, .data⟩ ?_ rfl; simp; done) | (refine hd ⟨8, .guard⟩ ?_ rfl; simp; done) | (refine hd ⟨8, .phase⟩ ?_ rfl; simp; done) | (refine hd ⟨8, .chain⟩ ?_ rfl; simp; done))
                  have e8 := c8 hd8
                  rw [e8] at hK
                  clear hd8
                  clear hd
                  go_simp
                  refine hK _ _ ?_ (fun h => by cases h)
                  intro s hs
                  cases hs
                  exact ⟨hB, c0, c1, c2, c3, c4, c5, c6, c7, c8, (fun _ => rfl), c10, c11, c12, c13, c14, c15, c18, c16, d17⟩
                case s10r2 =>
                  rintro L u W ⟨hB, c0, c1, c2, c3, c4, c5, c6, c7, c8, c9, c10, c11, c12, c13, c14, c15, c18, c16, d17⟩ hf hd K hK
                  dsimp only at hK
                  have hd9 : L 9 = true := (by first | (refine hd ⟨9, .data⟩ ?_ rfl; simp; done) | (refine hd ⟨9, .guard⟩ ?_ rfl; simp; done) | (refine hd ⟨9, .phase⟩ ?_ rfl; simp; done) | (refine hd ⟨9, .chain⟩ ?_ rfl; simp; done))
                  have e9 := c9 hd9
                  rw [e9] at hK
                  have t0 := (ks.out.keep hB).cell (i := 3) rfl
                  have t1 := (ks.out.keep hB).cell (i := 4) rfl
                  have t2 := (ks.out.keep hB).cell (i := 5) rfl
                  clear hd9
                  clear hd
                  go_simp
                  refine hK _ _ ?_ (fun h => by cases h)
                  intro s hs
                  cases hs
                  exact ⟨hB, c0, c1, c2, c3, c4, c5, c6, c7, c8, c9, (fun _ => rfl), c11, c12, c13, c14, c15, c18, c16, d17⟩
                case s11r2 =>
                  rintro L u W ⟨hB, c0, c1, c2, c3, c4, c5, c6, c7, c8, c9, c10, c11, c12, c13, c14, c15, c18, c16, d17⟩ hf hd K hK
                  dsimp only at hK
                  have hd4 : L 4 = true := (by first | (refine hd ⟨4, .data⟩ ?_ rfl; simp; done) | (refine hd ⟨4, .guard⟩ ?_ rfl; simp; done) | (refine hd ⟨4, .phase⟩ ?_ rfl; simp; done) | (refine hd ⟨4, .chain⟩ ?_ rfl; simp; done))
                  have hd7 : L 7 = true := (by first | (refine hd ⟨7, .data⟩ ?_ rfl; simp; done) | (refine hd ⟨7, .guard⟩ ?_ rfl; simp; done) | (refine hd ⟨7, .phase⟩ ?_ rfl; simp; done) | (refine hd ⟨7, .chain⟩ ?_ rfl; simp; done))
                  have hd10 : L 10 = true := (by first | (refine hd ⟨10, .data⟩ ?_ rfl; simp; done) | (refine hd ⟨10, .guard⟩ ?_ rfl; simp; done) | (refine hd ⟨10, .phase⟩ ?_ rfl; simp; done) | (refine hd ⟨10, .chain⟩ ?_ rfl; simp; done))
                  have e4 := c4 hd4
                  rw [e4] at hK
                  have e7 := c7 hd7
                  rw [e7] at hK
                  have e10 := c10 hd10
                  rw [e10] at hK
                  clear hd4
                  clear hd7
                  clear hd10
                  clear hd
                  go_simp
                  refine hK _ _ ?_ (fun h => by cases h)
                  intro s hs
                  cases hs
                  exact ⟨hB, c0, c1, c2, c3, c4, c5, c6, c7, c8, c9, c10, (fun _ => rfl), c12, c13, c14, c15, c18, c16, d17⟩
                case s12r2 =>
                  rintro L u W ⟨hB, c0, c1, c2, c3, c4, c5, c6, c7, c8, c9, c10, c11, c12, c13, c14, c15, c18, c16, d17⟩ hf hd K hK
                  dsimp only at hK
                  have hd0 : L 0 = true := (by first | (refine hd ⟨0, .data⟩ ?_ rfl; simp; done) | (refine hd ⟨0, .guard⟩ ?_ rfl; simp; done) | (refine hd ⟨0, .phase⟩ ?_ rfl; simp; done) | (refine hd ⟨0, .chain⟩ ?_ rfl; simp; done))
                  have hd1 : L 1 = true := (by first | (refine hd ⟨1, .data⟩ ?_ rfl; simp; done) | (refine hd ⟨1, .guard⟩ ?_ rfl; simp; done) | (refine hd ⟨1, .phase⟩ ?_ rfl; simp; done) | (refine hd ⟨1, .chain⟩ ?_ rfl; simp; done))
                  have hd11 : L 11 = true := (by first | (refine hd ⟨11, .data⟩ ?_ rfl; simp; done) | (refine hd ⟨11, .guard⟩ ?_ rfl; simp; done) | (refine hd ⟨11, .phase⟩ ?_ rfl; simp; done) | (refine hd ⟨11, .chain⟩ ?_ rfl; simp; done))
                  have e0 := c0 hd0
                  rw [e0] at hK
                  have e1 := c1 hd1
                  rw [e1] at hK
                  have e11 := c11 hd11
                  rw [e11] at hK
                  clear hd0
                  clear hd1
                  clear hd11
                  clear hd
                  go_simp
                  go_wp2_with (go_at_call 14; ((with_reducible refine (D1.out _).mono ?_); rintro e w5 ⟨rfl, hb⟩))
                  refine hK _ _ ?_ (fun h => by cases h)
                  intro s hs
                  cases hs
                  exact ⟨hB.trans (hb.mono hB.size), c0, c1, c2, c3, c4, c5, c6, c7, c8, c9, c10, c11, (fun _ => rfl), c13, c14, c15, c18, (fun h => by obtain ⟨g, x16_0, x16_1, x16_2, k1, k2, k3, k4⟩ := c16 h; exact ⟨g, x16_0, x16_1, x16_2, k1, k2, k3.keep hb, k4⟩), d17⟩
                case s13r2 =>
                  rintro L u W ⟨hB, c0, c1, c2, c3, c4, c5, c6, c7, c8, c9, c10, c11, c12, c13, c14, c15, c18, c16, d17⟩ hf hd K hK
                  dsimp only at hK
                  have hd12 : L 12 = true := (by first | (refine hd ⟨12, .data⟩ ?_ rfl; simp; done) | (refine hd ⟨12, .guard⟩ ?_ rfl; simp; done) | (refine hd ⟨12, .phase⟩ ?_ rfl; simp; done) | (refine hd ⟨12, .chain⟩ ?_ rfl; simp; done))
                  have e12 := c12 hd12
                  rw [e12] at hK
                  clear hd12
                  clear hd
                  go_simp
                  refine hK _ _ ?_ (fun h => by cases h)
                  intro s hs
                  cases hs
                  exact ⟨hB, c0, c1, c2, c3, c4, c5, c6, c7, c8, c9, c10, c11, c12, (fun _ => rfl), c14, c15, c18, c16, d17⟩
                case s14r2 =>
                  rintro L u W ⟨hB, c0, c1, c2, c3, c4, c5, c6, c7, c8, c9, c10, c11, c12, c13, c14, c15, c18, c16, d17⟩ hf hd K hK
                  dsimp only at hK
                  have hd13 : L 13 = true := (by first | (refine hd ⟨13, .data⟩ ?_ rfl; simp; done) | (refine hd ⟨13, .guard⟩ ?_ rfl; simp; done) | (refine hd ⟨13, .phase⟩ ?_ rfl; simp; done) | (refine hd ⟨13, .chain⟩ ?_ rfl; simp; done))
                  have e13 := c13 hd13
                  rw [e13] at hK
                  clear hd13
                  clear hd
                  go_simp
                  refine hK _ _ ?_ (fun h => by cases h)
                  intro s hs
                  cases hs
                  exact ⟨hB, c0, c1, c2, c3, c4, c5, c6, c7, c8, c9, c10, c11, c12, c13, (fun _ => rfl), c15, c18, c16, d17⟩
                case s15r2 =>
                  rintro L u W ⟨hB, c0, c1, c2, c3, c4, c5, c6, c7, c8, c9, c10, c11, c12, c13, c14, c15, c18, c16, d17⟩ hf hd K hK
                  dsimp only at hK
                  have hd13 : L 13 = true := (by first | (refine hd ⟨13, .data⟩ ?_ rfl; simp; done) | (refine hd ⟨13, .guard⟩ ?_ rfl; simp; done) | (refine hd ⟨13, .phase⟩ ?_ rfl; simp; done) | (refine hd ⟨13, .chain⟩ ?_ rfl; simp; done))
                  have e13 := c13 hd13
                  rw [e13] at hK
                  clear hd13
                  clear hd
                  go_simp
                  refine hK _ _ ?_ (fun h => by cases h)
                  intro s hs
                  cases hs
                  exact ⟨hB, c0, c1, c2, c3, c4, c5, c6, c7, c8, c9, c10, c11, c12, c13, c14, (fun _ => rfl), c18, c16, d17⟩
                case s16r2 =>
                  rintro L u W ⟨hB, c0, c1, c2, c3, c4, c5, c6, c7, c8, c9, c10, c11, c12, c13, c14, c15, c18, c16, d17⟩ hf hd K hK
                  dsimp only at hK
                  go_simp
                  have hb : Below W.heap.size W (W.alloc (.cells #[.int .i64 0, .int .i64 0, .int .i64 0] 26)) := (Below.refl _ W).alloc (Nat.le_refl _) _
                  refine hK _ _ ?_ (fun h => by cases h)
                  intro s hs
                  cases hs
                  exact ⟨hB.trans (hb.mono hB.size), c0, c1, c2, c3, c4, c5, c6, c7, c8, c9, c10, c11, c12, c13, c14, c15, c18, (fun _ => ⟨_, _, _, _, rfl, hB.size, Lok.new _ _ _, fun h => absurd (d17 h) (by rw [hf]; decide)⟩), (fun _ => rfl)⟩
                case s17r2 =>
                  rintro L u W ⟨hB, c0, c1, c2, c3, c4, c5, c6, c7, c8, c9, c10, c11, c12, c13, c14, c15, c18, c16, d17⟩ hf hd K hK
                  dsimp only at hK
                  have hd16 : L 16 = true := hd ⟨16, .data⟩ (by simp) rfl
                  have hd14 : L 14 = true := (by first | (refine hd ⟨14, .data⟩ ?_ rfl; simp; done) | (refine hd ⟨14, .guard⟩ ?_ rfl; simp; done) | (refine hd ⟨14, .phase⟩ ?_ rfl; simp; done) | (refine hd ⟨14, .chain⟩ ?_ rfl; simp; done))
                  obtain ⟨g, x16_0, x16_1, x16_2, e16, k2, k3, k4⟩ := c16 hd16
                  rw [e16] at hK
                  have e14 := c14 hd14
                  rw [e14] at hK
                  have t0 := k3.cell (i := 0) rfl
                  have f0 := k3.frozen 0
                  have t1 := k3.cell (i := 1) rfl
                  have f1 := k3.frozen 1
                  have t2 := k3.cell (i := 2) rfl
                  have f2 := k3.frozen 2
                  have HH := Lib.hid (And.intro trivial trivial)
                  clear hd
                  have hd16' := Lib.hid hd16
                  clear hd16
                  have hd14' := Lib.hid hd14
                  clear hd14
                  go_simp
                  have hd16 := hd16'.out
                  have hd14 := hd14'.out
                  have hlok := ((k3.set (i := 0) (v := .int .i64 qb1)).set (i := 1) (v := .int .i64 qb2)).set (i := 2) (v := .int .i64 qb3)
                  refine hK undef _ (fun s h => by cases h) (fun _ => ?_)
                  exact ⟨((hB.setCell k2 _).setCell k2 _).setCell k2 _, c0, c1, c2, c3, c4, c5, c6, c7, c8, c9, c10, c11, c12, c13, (fun _ => rfl), c15, c18, (fun _ => ⟨g, _, _, _, rfl, k2, hlok, fun _ => ⟨rfl, rfl, rfl⟩⟩), (fun _ => hd16)⟩
                case s18r2 =>
                  rintro L u W ⟨hB, c0, c1, c2, c3, c4, c5, c6, c7, c8, c9, c10, c11, c12, c13, c14, c15, c18, c16, d17⟩ hf hd K hK
                  dsimp only at hK
                  have hd15 : L 15 = true := (by first | (refine hd ⟨15, .data⟩ ?_ rfl; simp; done) | (refine hd ⟨15, .guard⟩ ?_ rfl; simp; done) | (refine hd ⟨15, .phase⟩ ?_ rfl; simp; done) | (refine hd ⟨15, .chain⟩ ?_ rfl; simp; done))
                  have e15 := c15 hd15
                  rw [e15] at hK
                  clear hd15
                  clear hd
                  go_simp
                  refine hK _ _ ?_ (fun h => by cases h)
                  intro s hs
                  cases hs
                  exact ⟨hB, c0, c1, c2, c3, c4, c5, c6, c7, c8, c9, c10, c11, c12, c13, c14, c15, (fun _ => rfl), c16, d17⟩
              case finr2 =>
                rintro L u W hL ⟨hB, c0, c1, c2, c3, c4, c5, c6, c7, c8, c9, c10, c11, c12, c13, c14, c15, c18, c16, d17⟩
                have e0 := c0 (hL 0 (by decide))
                have e1 := c1 (hL 1 (by decide))
                have e2 := c2 (hL 2 (by decide))
                have e3 := c3 (hL 3 (by decide))
                have e4 := c4 (hL 4 (by decide))
                have e5 := c5 (hL 5 (by decide))
                have e6 := c6 (hL 6 (by decide))
                have e7 := c7 (hL 7 (by decide))
                have e8 := c8 (hL 8 (by decide))
                have e9 := c9 (hL 9 (by decide))
                have e10 := c10 (hL 10 (by decide))
                have e11 := c11 (hL 11 (by decide))
                have e12 := c12 (hL 12 (by decide))
                have e13 := c13 (hL 13 (by decide))
                have e14 := c14 (hL 14 (by decide))
                have e15 := c15 (hL 15 (by decide))
                have e18 := c18 (hL 18 (by decide))
                obtain ⟨g16, x16_0, x16_1, x16_2, e16, hg16, hlok16, hst16⟩ := c16 (hL 16 (by decide))
                obtain ⟨rfl, rfl, rfl⟩ := hst16 (hL 17 (by decide))
                clear hst16
                clear hL c0 c1 c2 c3 c4 c5 c6 c7 c8 c9 c10 c11 c12 c13 c14 c15 c18 c16 d17
                try simp only [e0, e1, e2, e3, e4, e5, e6, e7, e8, e9, e10, e11, e12, e13, e14, e15, e18, e16]
                clear e0 e1 e2 e3 e4 e5 e6 e7 e8 e9 e10 e11 e12 e13 e14 e15 e18 e16
                obtain ⟨X2, rfl⟩ : ∃ X, X = W := ⟨_, rfl⟩
                replace H1 := Lib.hid (H1.out.trans (hB.mono H1.out.size))
                replace HB := Lib.hid (HB.out.trans (hB.mono HB.out.size))
                replace kp := Lib.hid (kp.out.keep hB)
                replace kt := Lib.hid (kt.out.keep hB)
                replace ks := Lib.hid (ks.out.keep hB)
                replace km := Lib.hid (km.out.keep hB)
                replace kf := Lib.hid (kf.out.keep hB)
                have kg := Lib.hid hlok16
                clear hlok16
                go_upto_region 9 with fail
                clear hB
                have qs0 : ∀ D : Of (PastV X2), _ := fun D => (ks.out.keep (show Below X2.heap.size X2 D.world from D.holds)).cell (i := 0) rfl
                have qs1 : ∀ D : Of (PastV X2), _ := fun D => (ks.out.keep (show Below X2.heap.size X2 D.world from D.holds)).cell (i := 1) rfl
                have qs2 : ∀ D : Of (PastV X2), _ := fun D => (ks.out.keep (show Below X2.heap.size X2 D.world from D.holds)).cell (i := 2) rfl
                have qs3 : ∀ D : Of (PastV X2), _ := fun D => (ks.out.keep (show Below X2.heap.size X2 D.world from D.holds)).cell (i := 3) rfl
                have qs4 : ∀ D : Of (PastV X2), _ := fun D => (ks.out.keep (show Below X2.heap.size X2 D.world from D.holds)).cell (i := 4) rfl
                have qs5 : ∀ D : Of (PastV X2), _ := fun D => (ks.out.keep (show Below X2.heap.size X2 D.world from D.holds)).cell (i := 5) rfl
                have qs6 : ∀ D : Of (PastV X2), _ := fun D => (ks.out.keep (show Below X2.heap.size X2 D.world from D.holds)).cell (i := 6) rfl
                have qs7 : ∀ D : Of (PastV X2), _ := fun D => (ks.out.keep (show Below X2.heap.size X2 D.world from D.holds)).cell (i := 7) rfl
                have qs8 : ∀ D : Of (PastV X2), _ := fun D => (ks.out.keep (show Below X2.heap.size X2 D.world from D.holds)).cell (i := 8) rfl
                have qf0 : ∀ D : Of (PastV X2), _ := fun D => (kf.out.keep (show Below X2.heap.size X2 D.world from D.holds)).cell (i := 0) rfl
                have qf1 : ∀ D : Of (PastV X2), _ := fun D => (kf.out.keep (show Below X2.heap.size X2 D.world from D.holds)).cell (i := 1) rfl
                have qf2 : ∀ D : Of (PastV X2), _ := fun D => (kf.out.keep (show Below X2.heap.size X2 D.world from D.holds)).cell (i := 2) rfl
                have qg0 : ∀ D : Of (PastV X2), _ := fun D => (kg.out.keep (show Below X2.heap.size X2 D.world from D.holds)).cell (i := 0) rfl
                have qg1 : ∀ D : Of (PastV X2), _ := fun D => (kg.out.keep (show Below X2.heap.size X2 D.world from D.holds)).cell (i := 1) rfl
                have qg2 : ∀ D : Of (PastV X2), _ := fun D => (kg.out.keep (show Below X2.heap.size X2 D.world from D.holds)).cell (i := 2) rfl
                have ST := Lib.hid (pastV_stays X2)
                have ne : Nonempty (Of (PastV X2)) := ⟨⟨X2, Below.refl _ _⟩⟩
                refine wp_region_class (S := PastV X2) (by kernel_rfl) (by kernel_rfl) (Below.refl _ _).drew ?_
                repeat (go_big_quiet_step (fail))
                refine wpQuiet_nil ?_
                rintro _ ⟨D, rfl⟩
                have hD : Below X2.heap.size X2 D.world := D.holds
                have H2 := Lib.hid (H1.out.trans (hD.mono H1.out.size))
                replace HB := Lib.hid (HB.out.trans (hD.mono HB.out.size))
                replace kp := Lib.hid (kp.out.keep hD)
                replace kt := Lib.hid (kt.out.keep hD)
                replace ks := Lib.hid (ks.out.keep hD)
                replace km := Lib.hid (km.out.keep hD)
                replace kf := Lib.hid (kf.out.keep hD)
                replace kg := Lib.hid (kg.out.keep hD)
                generalize D.world = vd at *
                clear qs0 qs1 qs2 qs3 qs4 qs5 qs6 qs7 qs8 qf0 qf1 qf2 qg0 qg1 qg2 ne ST hD
                go_wp2
                go_roundw
                case rel => exact ⟨2, rfl, by omega, H2.out⟩
                case measure => simp [intOf]
          · go_upto_region 7 with fail
            refine wp_region_rel (by kernel_rfl) [35, 36, 37, 38, 39, 40, 41, 42, 43, 10, 11] ?Fr6 ?hFr6
              (fun L u W => Below wr.heap.size wr W ∧ (L 0 = true → u 36 = .int .i64 2) ∧ (L 1 = true → u 37 = .pointer (some ⟨w.heap.size + 1, 4, none⟩)) ∧ (L 2 = true → u 38 = .agg #[.int .i64 c1, .int .i64 c2]) ∧ (L 3 = true → u 39 = .agg #[.int .i64 a1, .int .i64 a2, .int .i64 b1, .int .i64 b2, .int .i64 c1, .int .i64 c2]) ∧ (L 4 = true → u 40 = .agg #[.int .i64 qa1, .int .i64 qa2, .int .i64 qa3, .int .i64 qb1, .int .i64 qb2, .int .i64 qb3, .int .i64 qc1, .int .i64 qc2, .int .i64 qc3]) ∧ (L 5 = true → u 41 = .tuple #[.agg #[.int .i64 qc1, .int .i64 qc2, .int .i64 qc3], .int .i64 0]) ∧ (L 6 = true → u 35 = .tuple #[.agg #[.int .i64 qc1, .int .i64 qc2, .int .i64 qc3], .int .i64 0]) ∧ (L 7 = true → u 42 = .agg #[.int .i64 qc1, .int .i64 qc2, .int .i64 qc3]) ∧ (L 8 = true → u 43 = .int .i64 0) ∧ (L 11 = true → u 11 = .int .i64 0) ∧ (L 9 = true → ∃ (g : Nat) (x9_0 x9_1 x9_2 : Value), u 10 = .pointer (some ⟨g, 0, none⟩) ∧ wr.heap.size ≤ g ∧ Lok W g 26 #[x9_0, x9_1, x9_2] ∧ (L 10 = true → x9_0 = .int .i64 qc1 ∧ x9_1 = .int .i64 qc2 ∧ x9_2 = .int .i64 qc3)) ∧ (L 10 = true → L 9 = true)) (by kernel_rfl) (by kernel_rfl) 12 rfl ?h0r6 ?stepr6 ?finr6
            case hFr6 => intro u; simp only [putAll, Act.put, List.setIfInBounds_toArray, List.set]; exact rfl
            case h0r6 => intro L u hL; exact ⟨(Below.refl _ _).drew, (fun h => by simp [hL] at h), (fun h => by simp [hL] at h), (fun h => by simp [hL] at h), (fun h => by simp [hL] at h), (fun h => by simp [hL] at h), (fun h => by simp [hL] at h), (fun h => by simp [hL] at h), (fun h => by simp [hL] at h), (fun h => by simp [hL] at h), (fun h => by simp [hL] at h), (fun h => by simp [hL] at h), (fun h => by simp [hL] at h)⟩
            case stepr6 =>
              refine ops_all (ops_cons ?s0r6 (ops_cons ?s1r6 (ops_cons ?s2r6 (ops_cons ?s3r6 (ops_cons ?s4r6 (ops_cons ?s5r6 (ops_cons ?s6r6 (ops_cons ?s7r6 (ops_cons ?s8r6 (ops_cons ?s9r6 (ops_cons ?s10r6 (ops_cons ?s11r6 (ops_nil)))))))))))))
              case s0r6 =>
                rintro L u W ⟨hB, c0, c1, c2, c3, c4, c5, c6, c7, c8, c11, c9, d10⟩ hf hd K hK
                dsimp only at hK
                clear hd
                go_simp
                refine hK _ _ ?_ (fun h => by cases h)
                intro s hs
                cases hs
                exact ⟨hB, (fun _ => rfl), c1, c2, c3, c4, c5, c6, c7, c8, c11, c9, d10⟩
              case s1r6 =>
                rintro L u W ⟨hB, c0, c1, c2, c3, c4, c5, c6, c7, c8, c11, c9, d10⟩ hf hd K hK
                dsimp only at hK
                have hd0 : L 0 = true := (by first | (refine hd ⟨0, .data⟩ ?_ rfl; simp; done) | (refine hd ⟨0, .guard⟩ ?_ rfl; simp; done) | (refine hd ⟨0, .phase⟩ ?_ rfl; simp; done) | (refine hd ⟨0, .chain⟩ ?_ rfl; simp; done))
                have e0 := c0 hd0
                rw [e0] at hK
                clear hd0
                clear hd
                go_simp
                refine hK _ _ ?_ (fun h => by cases h)
                intro s hs
                cases hs
                exact ⟨hB, c0, (fun _ => rfl), c2, c3, c4, c5, c6, c7, c8, c11, c9, d10⟩
              case s2r6 =>
                rintro L u W ⟨hB, c0, c1, c2, c3, c4, c5, c6, c7, c8, c11, c9, d10⟩ hf hd K hK
                dsimp only at hK
                have hd1 : L 1 = true := (by first | (refine hd ⟨1, .data⟩ ?_ rfl; simp; done) | (refine hd ⟨1, .guard⟩ ?_ rfl; simp; done) | (refine hd ⟨1, .phase⟩ ?_ rfl; simp; done) | (refine hd ⟨1, .chain⟩ ?_ rfl; simp; done))
                have e1 := c1 hd1
                rw [e1] at hK
                have t0 := (kt.out.keep hB).cell (i := 4) rfl
                have t1 := (kt.out.keep hB).cell (i := 5) rfl
                clear hd1
                clear hd
                go_simp
                refine hK _ _ ?_ (fun h => by cases h)
                intro s hs
                cases hs
                exact ⟨hB, c0, c1, (fun _ => rfl), c3, c4, c5, c6, c7, c8, c11, c9, d10⟩
              case s3r6 =>
                rintro L u W ⟨hB, c0, c1, c2, c3, c4, c5, c6, c7, c8, c11, c9, d10⟩ hf hd K hK
                dsimp only at hK
                have t0 := (kt.out.keep hB).cell (i := 0) rfl
                have t1 := (kt.out.keep hB).cell (i := 1) rfl
                have t2 := (kt.out.keep hB).cell (i := 2) rfl
                have t3 := (kt.out.keep hB).cell (i := 3) rfl
                have t4 := (kt.out.keep hB).cell (i := 4) rfl
                have t5 := (kt.out.keep hB).cell (i := 5) rfl
                clear hd
                go_simp
                refine hK _ _ ?_ (fun h => by cases h)
                intro s hs
                cases hs
                exact ⟨hB, c0, c1, c2, (fun _ => rfl), c4, c5, c6, c7, c8, c11, c9, d10⟩
              case s4r6 =>
                rintro L u W ⟨hB, c0, c1, c2, c3, c4, c5, c6, c7, c8, c11, c9, d10⟩ hf hd K hK
                dsimp only at hK
                have t0 := (ks.out.keep hB).cell (i := 0) rfl
                have t1 := (ks.out.keep hB).cell (i := 1) rfl
                have t2 := (ks.out.keep hB).cell (i := 2) rfl
                have t3 := (ks.out.keep hB).cell (i := 3) rfl
                have t4 := (ks.out.keep hB).cell (i := 4) rfl
                have t5 := (ks.out.keep hB).cell (i := 5) rfl
                have t6 := (ks.out.keep hB).cell (i := 6) rfl
                have t7 := (ks.out.keep hB).cell (i := 7) rfl
                have t8 := (ks.out.keep hB).cell (i := 8) rfl
                clear hd
                go_simp
                refine hK _ _ ?_ (fun h => by cases h)
                intro s hs
                cases hs
                exact ⟨hB, c0, c1, c2, c3, (fun _ => rfl), c5, c6, c7, c8, c11, c9, d10⟩
              case s5r6 =>
                rintro L u W ⟨hB, c0, c1, c2, c3, c4, c5, c6, c7, c8, c11, c9, d10⟩ hf hd K hK
                dsimp only at hK
                have hd2 : L 2 = true := (by first | (refine hd ⟨2, .data⟩ ?_ rfl; simp; done) | (refine hd ⟨2, .guard⟩ ?_ rfl; simp; done) | (refine hd ⟨2, .phase⟩ ?_ rfl; simp; done) | (refine hd ⟨2, .chain⟩ ?_ rfl; simp; done))
                have hd3 : L 3 = true := (by first | (refine hd ⟨3, .data⟩ ?_ rfl; simp; done) | (refine hd ⟨3, .guard⟩ ?_ rfl; simp; done) | (refine hd ⟨3, .phase⟩ ?_ rfl; simp; done) | (refine hd ⟨3, .chain⟩ ?_ rfl; simp; done))
                have hd4 : L 4 = true := (by first | (refine hd ⟨4, .data⟩ ?_ rfl; simp; done) | (refine hd ⟨4, .guard⟩ ?_ rfl; simp; done) | (refine hd ⟨4, .phase⟩ ?_ rfl; simp; done) | (refine hd ⟨4, .chain⟩ ?_ rfl; simp; done))
                have e2 := c2 hd2
                rw [e2] at hK
                have e3 := c3 hd3
                rw [e3] at hK
                have e4 := c4 hd4
                rw [e4] at hK
                clear hd2
                clear hd3
                clear hd4
                clear hd
                go_simp
                go_wp2_with (go_at_call 14; ((with_reducible refine (C2.out _).mono ?_); rintro e w5 ⟨rfl, hb⟩))
                refine hK _ _ ?_ (fun h => by cases h)
                intro s hs
                cases hs
                exact ⟨hB.trans (hb.mono hB.size), c0, c1, c2, c3, c4, (fun _ => rfl), c6, c7, c8, c11, (fun h => by obtain ⟨g, x9_0, x9_1, x9_2, k1, k2, k3, k4⟩ := c9 h; exact ⟨g, x9_0, x9_1, x9_2, k1, k2, k3.keep hb, k4⟩), d10⟩
              case s6r6 =>
                rintro L u W ⟨hB, c0, c1, c2, c3, c4, c5, c6, c7, c8, c11, c9, d10⟩ hf hd K hK
                dsimp only at hK
                have hd5 : L 5 = true := (by first | (refine hd ⟨5, .data⟩ ?_ rfl; simp; done) | (refine hd ⟨5, .guard⟩ ?_ rfl; simp; done) | (refine hd ⟨5, .phase⟩ ?_ rfl; simp; done) | (refine hd ⟨5, .chain⟩ ?_ rfl; simp; done))
                have e5 := c5 hd5
                rw [e5] at hK
                clear hd5
                clear hd
                go_simp
                refine hK _ _ ?_ (fun h => by cases h)
                intro s hs
                cases hs
                exact ⟨hB, c0, c1, c2, c3, c4, c5, (fun _ => rfl), c7, c8, c11, c9, d10⟩
              case s7r6 =>
                rintro L u W ⟨hB, c0, c1, c2, c3, c4, c5, c6, c7, c8, c11, c9, d10⟩ hf hd K hK
                dsimp only at hK
                have hd6 : L 6 = true := (by first | (refine hd ⟨6, .data⟩ ?_ rfl; simp; done) | (refine hd ⟨6, .guard⟩ ?_ rfl; simp; done) | (refine hd ⟨6, .phase⟩ ?_ rfl; simp; done) | (refine hd ⟨6, .chain⟩ ?_ rfl; simp; done))
                have e6 := c6 hd6
                rw [e6] at hK
                clear hd6
                clear hd
                go_simp
                refine hK _ _ ?_ (fun h => by cases h)
                intro s hs
                cases hs
                exact ⟨hB, c0, c1, c2, c3, c4, c5, c6, (fun _ => rfl), c8, c11, c9, d10⟩
              case s8r6 =>
                rintro L u W ⟨hB, c0, c1, c2, c3, c4, c5, c6, c7, c8, c11, c9, d10⟩ hf hd K hK
                dsimp only at hK
                have hd6 : L 6 = true := (by first | (refine hd ⟨6, .data⟩ ?_ rfl; simp; done) | (refine hd ⟨6, .guard⟩ ?_ rfl; simp; done) | (refine hd ⟨6, .phase⟩ ?_ rfl; simp; done) | (refine hd ⟨6, .chain⟩ ?_ rfl; simp; done))
                have e6 := c6 hd6
                rw [e6] at hK
                clear hd6
                clear hd
                go_simp
                refine hK _ _ ?_ (fun h => by cases h)
                intro s hs
                cases hs
                exact ⟨hB, c0, c1, c2, c3, c4, c5, c6, c7, (fun _ => rfl), c11, c9, d10⟩
              case s9r6 =>
                rintro L u W ⟨hB, c0, c1, c2, c3, c4, c5, c6, c7, c8, c11, c9, d10⟩ hf hd K hK
                dsimp only at hK
                go_simp
                have hb : Below W.heap.size W (W.alloc (.cells #[.int .i64 0, .int .i64 0, .int .i64 0] 26)) := (Below.refl _ W).alloc (Nat.le_refl _) _
                refine hK _ _ ?_ (fun h => by cases h)
                intro s hs
                cases hs
                exact ⟨hB.trans (hb.mono hB.size), c0, c1, c2, c3, c4, c5, c6, c7, c8, c11, (fun _ => ⟨_, _, _, _, rfl, hB.size, Lok.new _ _ _, fun h => absurd (d10 h) (by rw [hf]; decide)⟩), (fun _ => rfl)⟩
              case s10r6 =>
                rintro L u W ⟨hB, c0, c1, c2, c3, c4, c5, c6, c7, c8, c11, c9, d10⟩ hf hd K hK
                dsimp only at hK
                have hd9 : L 9 = true := hd ⟨9, .data⟩ (by simp) rfl
                have hd7 : L 7 = true := (by first | (refine hd ⟨7, .data⟩ ?_ rfl; simp; done) | (refine hd ⟨7, .guard⟩ ?_ rfl; simp; done) | (refine hd ⟨7, .phase⟩ ?_ rfl; simp; done) | (refine hd ⟨7, .chain⟩ ?_ rfl; simp; done))
                obtain ⟨g, x9_0, x9_1, x9_2, e9, k2, k3, k4⟩ := c9 hd9
                rw [e9] at hK
                have e7 := c7 hd7
                rw [e7] at hK
                have t0 := k3.cell (i := 0) rfl
                have f0 := k3.frozen 0
                have t1 := k3.cell (i := 1) rfl
                have f1 := k3.frozen 1
                have t2 := k3.cell (i := 2) rfl
                have f2 := k3.frozen 2
                have HH := Lib.hid (And.intro trivial trivial)
                clear hd
                have hd9' := Lib.hid hd9
                clear hd9
                have hd7' := Lib.hid hd7
                clear hd7
                go_simp
                have hd9 := hd9'.out
                have hd7 := hd7'.out
                have hlok := ((k3.set (i := 0) (v := .int .i64 qc1)).set (i := 1) (v := .int .i64 qc2)).set (i := 2) (v := .int .i64 qc3)
                refine hK undef _ (fun s h => by cases h) (fun _ => ?_)
                exact ⟨((hB.setCell k2 _).setCell k2 _).setCell k2 _, c0, c1, c2, c3, c4, c5, c6, (fun _ => rfl), c8, c11, (fun _ => ⟨g, _, _, _, rfl, k2, hlok, fun _ => ⟨rfl, rfl, rfl⟩⟩), (fun _ => hd9)⟩
              case s11r6 =>
                rintro L u W ⟨hB, c0, c1, c2, c3, c4, c5, c6, c7, c8, c11, c9, d10⟩ hf hd K hK
                dsimp only at hK
                have hd8 : L 8 = true := (by first | (refine hd ⟨8, .data⟩ ?_ rfl; simp; done) | (refine hd ⟨8, .guard⟩ ?_ rfl; simp; done) | (refine hd ⟨8, .phase⟩ ?_ rfl; simp; done) | (refine hd ⟨8, .chain⟩ ?_ rfl; simp; done))
                have e8 := c8 hd8
                rw [e8] at hK
                clear hd8
                clear hd
                go_simp
                refine hK _ _ ?_ (fun h => by cases h)
                intro s hs
                cases hs
                exact ⟨hB, c0, c1, c2, c3, c4, c5, c6, c7, c8, (fun _ => rfl), c9, d10⟩
            case finr6 =>
              rintro L u W hL ⟨hB, c0, c1, c2, c3, c4, c5, c6, c7, c8, c11, c9, d10⟩
              have e0 := c0 (hL 0 (by decide))
              have e1 := c1 (hL 1 (by decide))
              have e2 := c2 (hL 2 (by decide))
              have e3 := c3 (hL 3 (by decide))
              have e4 := c4 (hL 4 (by decide))
              have e5 := c5 (hL 5 (by decide))
              have e6 := c6 (hL 6 (by decide))
              have e7 := c7 (hL 7 (by decide))
              have e8 := c8 (hL 8 (by decide))
              have e11 := c11 (hL 11 (by decide))
              obtain ⟨g9, x9_0, x9_1, x9_2, e9, hg9, hlok9, hst9⟩ := c9 (hL 9 (by decide))
              obtain ⟨rfl, rfl, rfl⟩ := hst9 (hL 10 (by decide))
              clear hst9
              clear hL c0 c1 c2 c3 c4 c5 c6 c7 c8 c11 c9 d10
              try simp only [e0, e1, e2, e3, e4, e5, e6, e7, e8, e11, e9]
              clear e0 e1 e2 e3 e4 e5 e6 e7 e8 e11 e9
              obtain ⟨X1, rfl⟩ : ∃ X, X = W := ⟨_, rfl⟩
              replace H1 := Lib.hid (H1.out.trans (hB.mono H1.out.size))
              replace HB := Lib.hid (HB.out.trans (hB.mono HB.out.size))
              replace kp := Lib.hid (kp.out.keep hB)
              replace kt := Lib.hid (kt.out.keep hB)
              replace ks := Lib.hid (ks.out.keep hB)
              replace km := Lib.hid (km.out.keep hB)
              have kf := Lib.hid hlok9
              clear hlok9 hB
              go_upto_region 8 with fail
              refine wp_region_rel (by kernel_rfl) [44, 45, 46, 47, 48, 49, 50, 51, 52, 53, 54, 55, 56, 57, 58, 59, 12, 13] ?Fr3 ?hFr3
                (fun L u W => Below X1.heap.size X1 W ∧ (L 0 = true → u 45 = .agg #[.int .i64 x, .int .i64 y]) ∧ (L 1 = true → u 46 = .agg #[.int .i64 a1, .int .i64 a2, .int .i64 b1, .int .i64 b2, .int .i64 c1, .int .i64 c2]) ∧ (L 2 = true → u 47 = .int .i64 2) ∧ (L 3 = true → u 48 = .pointer (some ⟨w.heap.size + 2, 6, none⟩)) ∧ (L 4 = true → u 49 = .agg #[.int .i64 qc1, .int .i64 qc2, .int .i64 qc3]) ∧ (L 5 = true → u 50 = .int .i64 2) ∧ (L 6 = true → u 51 = .pointer (some ⟨w.heap.size + 2, 6, none⟩)) ∧ (L 7 = true → u 52 = .agg #[.int .i64 qc1, .int .i64 qc2, .int .i64 qc3]) ∧ (L 8 = true → u 53 = .int .i64 2) ∧ (L 9 = true → u 54 = .pointer (some ⟨w.heap.size + 2, 6, none⟩)) ∧ (L 10 = true → u 55 = .agg #[.int .i64 qc1, .int .i64 qc2, .int .i64 qc3]) ∧ (L 11 = true → u 56 = .agg #[.int .i64 qc1, .int .i64 qc2, .int .i64 qc3, .int .i64 qc1, .int .i64 qc2, .int .i64 qc3, .int .i64 qc1, .int .i64 qc2, .int .i64 qc3]) ∧ (L 12 = true → u 57 = .tuple #[.agg #[.int .i64 qc1, .int .i64 qc2, .int .i64 qc3], .int .i64 0]) ∧ (L 13 = true → u 44 = .tuple #[.agg #[.int .i64 qc1, .int .i64 qc2, .int .i64 qc3], .int .i64 0]) ∧ (L 14 = true → u 58 = .agg #[.int .i64 qc1, .int .i64 qc2, .int .i64 qc3]) ∧ (L 15 = true → u 59 = .int .i64 0) ∧ (L 18 = true → u 13 = .int .i64 0) ∧ (L 16 = true → ∃ (g : Nat) (x16_0 x16_1 x16_2 : Value), u 12 = .pointer (some ⟨g, 0, none⟩) ∧ X1.heap.size ≤ g ∧ Lok W g 26 #[x16_0, x16_1, x16_2] ∧ (L 17 = true → x16_0 = .int .i64 qc1 ∧ x16_1 = .int .i64 qc2 ∧ x16_2 = .int .i64 qc3)) ∧ (L 17 = true → L 16 = true)) (by kernel_rfl) (by kernel_rfl) 19 rfl ?h0r3 ?stepr3 ?finr3
              case hFr3 => intro u; simp only [putAll, Act.put, List.setIfInBounds_toArray, List.set]; exact rfl
              case h0r3 => intro L u hL; exact ⟨(Below.refl _ _).drew, (fun h => by simp [hL] at h), (fun h => by simp [hL] at h), (fun h => by simp [hL] at h), (fun h => by simp [hL] at h), (fun h => by simp [hL] at h), (fun h => by simp [hL] at h), (fun h => by simp [hL] at h), (fun h => by simp [hL] at h), (fun h => by simp [hL] at h), (fun h => by simp [hL] at h), (fun h => by simp [hL] at h), (fun h => by simp [hL] at h), (fun h => by simp [hL] at h), (fun h => by simp [hL] at h), (fun h => by simp [hL] at h), (fun h => by simp [hL] at h), (fun h => by simp [hL] at h), (fun h => by simp [hL] at h), (fun h => by simp [hL] at h)⟩
              case stepr3 =>
                refine ops_all (ops_cons ?s0r3 (ops_cons ?s1r3 (ops_cons ?s2r3 (ops_cons ?s3r3 (ops_cons ?s4r3 (ops_cons ?s5r3 (ops_cons ?s6r3 (ops_cons ?s7r3 (ops_cons ?s8r3 (ops_cons ?s9r3 (ops_cons ?s10r3 (ops_cons ?s11r3 (ops_cons ?s12r3 (ops_cons ?s13r3 (ops_cons ?s14r3 (ops_cons ?s15r3 (ops_cons ?s16r3 (ops_cons ?s17r3 (ops_cons ?s18r3 (ops_nil))))))))))))))))))))
                case s0r3 =>
                  rintro L u W ⟨hB, c0, c1, c2, c3, c4, c5, c6, c7, c8, c9, c10, c11, c12, c13, c14, c15, c18, c16, d17⟩ hf hd K hK
                  dsimp only at hK
                  have t0 := (kp.out.keep hB).cell (i := 0) rfl
                  have t1 := (kp.out.keep hB).cell (i := 1) rfl
                  clear hd
                  go_simp
                  refine hK _ _ ?_ (fun h => by cases h)
                  intro s hs
                  cases hs
                  exact ⟨hB, (fun _ => rfl), c1, c2, c3, c4, c5, c6, c7, c8, c9, c10, c11, c12, c13, c14, c15, c18, c16, d17⟩
                case s1r3 =>
                  rintro L u W ⟨hB, c0, c1, c2, c3, c4, c5, c6, c7, c8, c9, c10, c11, c12, c13, c14, c15, c18, c16, d17⟩ hf hd K hK
                  dsimp only at hK
                  have t0 := (kt.out.keep hB).cell (i := 0) rfl
                  have t1 := (kt.out.keep hB).cell (i := 1) rfl
                  have t2 := (kt.out.keep hB).cell (i := 2) rfl
                  have t3 := (kt.out.keep hB).cell (i := 3) rfl
                  have t4 := (kt.out.keep hB).cell (i := 4) rfl
                  have t5 := (kt.out.keep hB).cell (i := 5) rfl
                  clear hd
                  go_simp
                  refine hK _ _ ?_ (fun h => by cases h)
                  intro s hs
                  cases hs
                  exact ⟨hB, c0, (fun _ => rfl), c2, c3, c4, c5, c6, c7, c8, c9, c10, c11, c12, c13, c14, c15, c18, c16, d17⟩
                case s2r3 =>
                  rintro L u W ⟨hB, c0, c1, c2, c3, c4, c5, c6, c7, c8, c9, c10, c11, c12, c13, c14, c15, c18, c16, d17⟩ hf hd K hK
                  dsimp only at hK
                  clear hd
                  go_simp
                  refine hK _ _ ?_ (fun h => by cases h)
                  intro s hs
                  cases hs
                  exact ⟨hB, c0, c1, (fun _ => rfl), c3, c4, c5, c6, c7, c8, c9, c10, c11, c12, c13, c14, c15, c18, c16, d17⟩
                case s3r3 =>
                  rintro L u W ⟨hB, c0, c1, c2, c3, c4, c5, c6, c7, c8, c9, c10, c11, c12, c13, c14, c15, c18, c16, d17⟩ hf hd K hK
                  dsimp only at hK
                  have hd2 : L 2 = true := (by first | (refine hd ⟨2, .data⟩ ?_ rfl; simp; done) | (refine hd ⟨2, .guard⟩ ?_ rfl; simp; done) | (refine hd ⟨2, .phase⟩ ?_ rfl; simp; done) | (refine hd ⟨2, .chain⟩ ?_ rfl; simp; done))
                  have e2 := c2 hd2
                  rw [e2] at hK
                  clear hd2
                  clear hd
                  go_simp
                  refine hK _ _ ?_ (fun h => by cases h)
                  intro s hs
                  cases hs
                  exact ⟨hB, c0, c1, c2, (fun _ => rfl), c4, c5, c6, c7, c8, c9, c10, c11, c12, c13, c14, c15, c18, c16, d17⟩
                case s4r3 =>
                  rintro L u W ⟨hB, c0, c1, c2, c3, c4, c5, c6, c7, c8, c9, c10, c11, c12, c13, c14, c15, c18, c16, d17⟩ hf hd K hK
                  dsimp only at hK
                  have hd3 : L 3 = true := (by first | (refine hd ⟨3, .data⟩ ?_ rfl; simp; done) | (refine hd ⟨3, .guard⟩ ?_ rfl; simp; done) | (refine hd ⟨3, .phase⟩ ?_ rfl; simp; done) | (refine hd ⟨3, .chain⟩ ?_ rfl; simp; done))
                  have e3 := c3 hd3
                  rw [e3] at hK
                  have t0 := (ks.out.keep hB).cell (i := 6) rfl
                  have t1 := (ks.out.keep hB).cell (i := 7) rfl
                  have t2 := (ks.out.keep hB).cell (i := 8) rfl
                  clear hd3
                  clear hd
                  go_simp
                  refine hK _ _ ?_ (fun h => by cases h)
                  intro s hs
                  cases hs
                  exact ⟨hB, c0, c1, c2, c3, (fun _ => rfl), c5, c6, c7, c8, c9, c10, c11, c12, c13, c14, c15, c18, c16, d17⟩
                case s5r3 =>
                  rintro L u W ⟨hB, c0, c1, c2, c3, c4, c5, c6, c7, c8, c9, c10, c11, c12, c13, c14, c15, c18, c16, d17⟩ hf hd K hK
                  dsimp only at hK
                  clear hd
                  go_simp
                  refine hK _ _ ?_ (fun h => by cases h)
                  intro s hs
                  cases hs
                  exact ⟨hB, c0, c1, c2, c3, c4, (fun _ => rfl), c6, c7, c8, c9, c10, c11, c12, c13, c14, c15, c18, c16, d17⟩
                case s6r3 =>
                  rintro L u W ⟨hB, c0, c1, c2, c3, c4, c5, c6, c7, c8, c9, c10, c11, c12, c13, c14, c15, c18, c16, d17⟩ hf hd K hK
                  dsimp only at hK
                  have hd5 : L 5 = true := (by first | (refine hd ⟨5, .data⟩ ?_ rfl; simp; done) | (refine hd ⟨5, .guard⟩ ?_ rfl; simp; done) | (refine hd ⟨5, .phase⟩ ?_ rfl; simp; done) | (refine hd ⟨5, .chain⟩ ?_ rfl; simp; done))
                  have e5 := c5 hd5
                  rw [e5] at hK
                  clear hd5
                  clear hd
                  go_simp
                  refine hK _ _ ?_ (fun h => by cases h)
                  intro s hs
                  cases hs
                  exact ⟨hB, c0, c1, c2, c3, c4, c5, (fun _ => rfl), c7, c8, c9, c10, c11, c12, c13, c14, c15, c18, c16, d17⟩
                case s7r3 =>
                  rintro L u W ⟨hB, c0, c1, c2, c3, c4, c5, c6, c7, c8, c9, c10, c11, c12, c13, c14, c15, c18, c16, d17⟩ hf hd K hK
                  dsimp only at hK
                  have hd6 : L 6 = true := (by first | (refine hd ⟨6, .data⟩ ?_ rfl; simp; done) | (refine hd ⟨6, .guard⟩ ?_ rfl; simp; done) | (refine hd ⟨6, .phase⟩ ?_ rfl; simp; done) | (refine hd ⟨6, .chain⟩ ?_ rfl; simp; done))
                  have e6 := c6 hd6
                  rw [e6] at hK
                  have t0 := (ks.out.keep hB).cell (i := 6) rfl
                  have t1 := (ks.out.keep hB).cell (i := 7) rfl
                  have t2 := (ks.out.keep hB).cell (i := 8) rfl
                  clear hd6
                  clear hd
                  go_simp
                  refine hK _ _ ?_ (fun h => by cases h)
                  intro s hs
                  cases hs
                  exact ⟨hB, c0, c1, c2, c3, c4, c5, c6, (fun _ => rfl), c8, c9, c10, c11, c12, c13, c14, c15, c18, c16, d17⟩
                case s8r3 =>
                  rintro L u W ⟨hB, c0, c1, c2, c3, c4, c5, c6, c7, c8, c9, c10, c11, c12, c13, c14, c15, c18, c16, d17⟩ hf hd K hK
                  dsimp only at hK
                  clear hd
                  go_simp
                  refine hK _ _ ?_ (fun h => by cases h)
                  intro s hs
                  cases hs
                  exact ⟨hB, c0, c1, c2, c3, c4, c5, c6, c7, (fun _ => rfl), c9, c10, c11, c12, c13, c14, c15, c18, c16, d17⟩
                case s9r3 =>
                  rintro L u W ⟨hB, c0, c1, c2, c3, c4, c5, c6, c7, c8, c9, c10, c11, c12, c13, c14, c15, c18, c16, d17⟩ hf hd K hK
                  dsimp only at hK
                  have hd8 : L 8 = true := (by first | (refine hd ⟨8, .data⟩ ?_ rfl; simp; done) | (refine hd ⟨8, .guard⟩ ?_ rfl; simp; done) | (refine hd ⟨8, .phase⟩ ?_ rfl; simp; done) | (refine hd ⟨8, .chain⟩ ?_ rfl; simp; done))
                  have e8 := c8 hd8
                  rw [e8] at hK
                  clear hd8
                  clear hd
                  go_simp
                  refine hK _ _ ?_ (fun h => by cases h)
                  intro s hs
                  cases hs
                  exact ⟨hB, c0, c1, c2, c3, c4, c5, c6, c7, c8, (fun _ => rfl), c10, c11, c12, c13, c14, c15, c18, c16, d17⟩
                case s10r3 =>
                  rintro L u W ⟨hB, c0, c1, c2, c3, c4, c5, c6, c7, c8, c9, c10, c11, c12, c13, c14, c15, c18, c16, d17⟩ hf hd K hK
                  dsimp only at hK
                  have hd9 : L 9 = true := (by first | (refine hd ⟨9, .data⟩ ?_ rfl; simp; done) | (refine hd ⟨9, .guard⟩ ?_ rfl; simp; done) | (refine hd ⟨9, .phase⟩ ?_ rfl; simp; done) | (refine hd ⟨9, .chain⟩ ?_ rfl; simp; done))
                  have e9 := c9 hd9
                  rw [e9] at hK
                  have t0 := (ks.out.keep hB).cell (i := 6) rfl
                  have t1 := (ks.out.keep hB).cell (i := 7) rfl
                  have t2 := (ks.out.keep hB).cell (i := 8) rfl
                  clear hd9
                  clear hd
                  go_simp
                  refine hK _ _ ?_ (fun h => by cases h)
                  intro s hs
                  cases hs
                  exact ⟨hB, c0, c1, c2, c3, c4, c5, c6, c7, c8, c9, (fun _ => rfl), c11, c12, c13, c14, c15, c18, c16, d17⟩
                case s11r3 =>
                  rintro L u W ⟨hB, c0, c1, c2, c3, c4, c5, c6, c7, c8, c9, c10, c11, c12, c13, c14, c15, c18, c16, d17⟩ hf hd K hK
                  dsimp only at hK
                  have hd4 : L 4 = true := (by first | (refine hd ⟨4, .data⟩ ?_ rfl; simp; done) | (refine hd ⟨4, .guard⟩ ?_ rfl; simp; done) | (refine hd ⟨4, .phase⟩ ?_ rfl; simp; done) | (refine hd ⟨4, .chain⟩ ?_ rfl; simp; done))
                  have hd7 : L 7 = true := (by first | (refine hd ⟨7, .data⟩ ?_ rfl; simp; done) | (refine hd ⟨7, .guard⟩ ?_ rfl; simp; done) | (refine hd ⟨7, .phase⟩ ?_ rfl; simp; done) | (refine hd ⟨7, .chain⟩ ?_ rfl; simp; done))
                  have hd10 : L 10 = true := (by first | (refine hd ⟨10, .data⟩ ?_ rfl; simp; done) | (refine hd ⟨10, .guard⟩ ?_ rfl; simp; done) | (refine hd ⟨10, .phase⟩ ?_ rfl; simp; done) | (refine hd ⟨10, .chain⟩ ?_ rfl; simp; done))
                  have e4 := c4 hd4
                  rw [e4] at hK
                  have e7 := c7 hd7
                  rw [e7] at hK
                  have e10 := c10 hd10
                  rw [e10] at hK
                  clear hd4
                  clear hd7
                  clear hd10
                  clear hd
                  go_simp
                  refine hK _ _ ?_ (fun h => by cases h)
                  intro s hs
                  cases hs
                  exact ⟨hB, c0, c1, c2, c3, c4, c5, c6, c7, c8, c9, c10, (fun _ => rfl), c12, c13, c14, c15, c18, c16, d17⟩
                case s12r3 =>
                  rintro L u W ⟨hB, c0, c1, c2, c3, c4, c5, c6, c7, c8, c9, c10, c11, c12, c13, c14, c15, c18, c16, d17⟩ hf hd K hK
                  dsimp only at hK
                  have hd0 : L 0 = true := (by first | (refine hd ⟨0, .data⟩ ?_ rfl; simp; done) | (refine hd ⟨0, .guard⟩ ?_ rfl; simp; done) | (refine hd ⟨0, .phase⟩ ?_ rfl; simp; done) | (refine hd ⟨0, .chain⟩ ?_ rfl; simp; done))
                  have hd1 : L 1 = true := (by first | (refine hd ⟨1, .data⟩ ?_ rfl; simp; done) | (refine hd ⟨1, .guard⟩ ?_ rfl; simp; done) | (refine hd ⟨1, .phase⟩ ?_ rfl; simp; done) | (refine hd ⟨1, .chain⟩ ?_ rfl; simp; done))
                  have hd11 : L 11 = true := (by first | (refine hd ⟨11, .data⟩ ?_ rfl; simp; done) | (refine hd ⟨11, .guard⟩ ?_ rfl; simp; done) | (refine hd ⟨11, .phase⟩ ?_ rfl; simp; done) | (refine hd ⟨11, .chain⟩ ?_ rfl; simp; done))
                  have e0 := c0 hd0
                  rw [e0] at hK
                  have e1 := c1 hd1
                  rw [e1] at hK
                  have e11 := c11 hd11
                  rw [e11] at hK
                  clear hd0
                  clear hd1
                  clear hd11
                  clear hd
                  go_simp
                  go_wp2_with (go_at_call 14; ((with_reducible refine (D2.out _).mono ?_); rintro e w5 ⟨rfl, hb⟩))
                  refine hK _ _ ?_ (fun h => by cases h)
                  intro s hs
                  cases hs
                  exact ⟨hB.trans (hb.mono hB.size), c0, c1, c2, c3, c4, c5, c6, c7, c8, c9, c10, c11, (fun _ => rfl), c13, c14, c15, c18, (fun h => by obtain ⟨g, x16_0, x16_1, x16_2, k1, k2, k3, k4⟩ := c16 h; exact ⟨g, x16_0, x16_1, x16_2, k1, k2, k3.keep hb, k4⟩), d17⟩
                case s13r3 =>
                  rintro L u W ⟨hB, c0, c1, c2, c3, c4, c5, c6, c7, c8, c9, c10, c11, c12, c13, c14, c15, c18, c16, d17⟩ hf hd K hK
                  dsimp only at hK
                  have hd12 : L 12 = true := (by first | (refine hd ⟨12, .data⟩ ?_ rfl; simp; done) | (refine hd ⟨12, .guard⟩ ?_ rfl; simp; done) | (refine hd ⟨12, .phase⟩ ?_ rfl; simp; done) | (refine hd ⟨12, .chain⟩ ?_ rfl; simp; done))
                  have e12 := c12 hd12
                  rw [e12] at hK
                  clear hd12
                  clear hd
                  go_simp
                  refine hK _ _ ?_ (fun h => by cases h)
                  intro s hs
                  cases hs
                  exact ⟨hB, c0, c1, c2, c3, c4, c5, c6, c7, c8, c9, c10, c11, c12, (fun _ => rfl), c14, c15, c18, c16, d17⟩
                case s14r3 =>
                  rintro L u W ⟨hB, c0, c1, c2, c3, c4, c5, c6, c7, c8, c9, c10, c11, c12, c13, c14, c15, c18, c16, d17⟩ hf hd K hK
                  dsimp only at hK
                  have hd13 : L 13 = true := (by first | (refine hd ⟨13, .data⟩ ?_ rfl; simp; done) | (refine hd ⟨13, .guard⟩ ?_ rfl; simp; done) | (refine hd ⟨13, .phase⟩ ?_ rfl; simp; done) | (refine hd ⟨13, .chain⟩ ?_ rfl; simp; done))
                  have e13 := c13 hd13
                  rw [e13] at hK
                  clear hd13
                  clear hd
                  go_simp
                  refine hK _ _ ?_ (fun h => by cases h)
                  intro s hs
                  cases hs
                  exact ⟨hB, c0, c1, c2, c3, c4, c5, c6, c7, c8, c9, c10, c11, c12, c13, (fun _ => rfl), c15, c18, c16, d17⟩
                case s15r3 =>
                  rintro L u W ⟨hB, c0, c1, c2, c3, c4, c5, c6, c7, c8, c9, c10, c11, c12, c13, c14, c15, c18, c16, d17⟩ hf hd K hK
                  dsimp only at hK
                  have hd13 : L 13 = true := (by first | (refine hd ⟨13, .data⟩ ?_ rfl; simp; done) | (refine hd ⟨13, .guard⟩ ?_ rfl; simp; done) | (refine hd ⟨13, .phase⟩ ?_ rfl; simp; done) | (refine hd ⟨13, .chain⟩ ?_ rfl; simp; done))
                  have e13 := c13 hd13
                  rw [e13] at hK
                  clear hd13
                  clear hd
                  go_simp
                  refine hK _ _ ?_ (fun h => by cases h)
                  intro s hs
                  cases hs
                  exact ⟨hB, c0, c1, c2, c3, c4, c5, c6, c7, c8, c9, c10, c11, c12, c13, c14, (fun _ => rfl), c18, c16, d17⟩
                case s16r3 =>
                  rintro L u W ⟨hB, c0, c1, c2, c3, c4, c5, c6, c7, c8, c9, c10, c11, c12, c13, c14, c15, c18, c16, d17⟩ hf hd K hK
                  dsimp only at hK
                  go_simp
                  have hb : Below W.heap.size W (W.alloc (.cells #[.int .i64 0, .int .i64 0, .int .i64 0] 26)) := (Below.refl _ W).alloc (Nat.le_refl _) _
                  refine hK _ _ ?_ (fun h => by cases h)
                  intro s hs
                  cases hs
                  exact ⟨hB.trans (hb.mono hB.size), c0, c1, c2, c3, c4, c5, c6, c7, c8, c9, c10, c11, c12, c13, c14, c15, c18, (fun _ => ⟨_, _, _, _, rfl, hB.size, Lok.new _ _ _, fun h => absurd (d17 h) (by rw [hf]; decide)⟩), (fun _ => rfl)⟩
                case s17r3 =>
                  rintro L u W ⟨hB, c0, c1, c2, c3, c4, c5, c6, c7, c8, c9, c10, c11, c12, c13, c14, c15, c18, c16, d17⟩ hf hd K hK
                  dsimp only at hK
                  have hd16 : L 16 = true := hd ⟨16, .data⟩ (by simp) rfl
                  have hd14 : L 14 = true := (by first | (refine hd ⟨14, .data⟩ ?_ rfl; simp; done) | (refine hd ⟨14, .guard⟩ ?_ rfl; simp; done) | (refine hd ⟨14, .phase⟩ ?_ rfl; simp; done) | (refine hd ⟨14, .chain⟩ ?_ rfl; simp; done))
                  obtain ⟨g, x16_0, x16_1, x16_2, e16, k2, k3, k4⟩ := c16 hd16
                  rw [e16] at hK
                  have e14 := c14 hd14
                  rw [e14] at hK
                  have t0 := k3.cell (i := 0) rfl
                  have f0 := k3.frozen 0
                  have t1 := k3.cell (i := 1) rfl
                  have f1 := k3.frozen 1
                  have t2 := k3.cell (i := 2) rfl
                  have f2 := k3.frozen 2
                  have HH := Lib.hid (And.intro trivial trivial)
                  clear hd
                  have hd16' := Lib.hid hd16
                  clear hd16
                  have hd14' := Lib.hid hd14
                  clear hd14
                  go_simp
                  have hd16 := hd16'.out
                  have hd14 := hd14'.out
                  have hlok := ((k3.set (i := 0) (v := .int .i64 qc1)).set (i := 1) (v := .int .i64 qc2)).set (i := 2) (v := .int .i64 qc3)
                  refine hK undef _ (fun s h => by cases h) (fun _ => ?_)
                  exact ⟨((hB.setCell k2 _).setCell k2 _).setCell k2 _, c0, c1, c2, c3, c4, c5, c6, c7, c8, c9, c10, c11, c12, c13, (fun _ => rfl), c15, c18, (fun _ => ⟨g, _, _, _, rfl, k2, hlok, fun _ => ⟨rfl, rfl, rfl⟩⟩), (fun _ => hd16)⟩
                case s18r3 =>
                  rintro L u W ⟨hB, c0, c1, c2, c3, c4, c5, c6, c7, c8, c9, c10, c11, c12, c13, c14, c15, c18, c16, d17⟩ hf hd K hK
                  dsimp only at hK
                  have hd15 : L 15 = true := (by first | (refine hd ⟨15, .data⟩ ?_ rfl; simp; done) | (refine hd ⟨15, .guard⟩ ?_ rfl; simp; done) | (refine hd ⟨15, .phase⟩ ?_ rfl; simp; done) | (refine hd ⟨15, .chain⟩ ?_ rfl; simp; done))
                  have e15 := c15 hd15
                  rw [e15] at hK
                  clear hd15
                  clear hd
                  go_simp
                  refine hK _ _ ?_ (fun h => by cases h)
                  intro s hs
                  cases hs
                  exact ⟨hB, c0, c1, c2, c3, c4, c5, c6, c7, c8, c9, c10, c11, c12, c13, c14, c15, (fun _ => rfl), c16, d17⟩
              case finr3 =>
                rintro L u W hL ⟨hB, c0, c1, c2, c3, c4, c5, c6, c7, c8, c9, c10, c11, c12, c13, c14, c15, c18, c16, d17⟩
                have e0 := c0 (hL 0 (by decide))
                have e1 := c1 (hL 1 (by decide))
                have e2 := c2 (hL 2 (by decide))
                have e3 := c3 (hL 3 (by decide))
                have e4 := c4 (hL 4 (by decide))
                have e5 := c5 (hL 5 (by decide))
                have e6 := c6 (hL 6 (by decide))
                have e7 := c7 (hL 7 (by decide))
                have e8 := c8 (hL 8 (by decide))
                have e9 := c9 (hL 9 (by decide))
                have e10 := c10 (hL 10 (by decide))
                have e11 := c11 (hL 11 (by decide))
                have e12 := c12 (hL 12 (by decide))
                have e13 := c13 (hL 13 (by decide))
                have e14 := c14 (hL 14 (by decide))
                have e15 := c15 (hL 15 (by decide))
                have e18 := c18 (hL 18 (by decide))
                obtain ⟨g16, x16_0, x16_1, x16_2, e16, hg16, hlok16, hst16⟩ := c16 (hL 16 (by decide))
                obtain ⟨rfl, rfl, rfl⟩ := hst16 (hL 17 (by decide))
                clear hst16
                clear hL c0 c1 c2 c3 c4 c5 c6 c7 c8 c9 c10 c11 c12 c13 c14 c15 c18 c16 d17
                try simp only [e0, e1, e2, e3, e4, e5, e6, e7, e8, e9, e10, e11, e12, e13, e14, e15, e18, e16]
                clear e0 e1 e2 e3 e4 e5 e6 e7 e8 e9 e10 e11 e12 e13 e14 e15 e18 e16
                obtain ⟨X2, rfl⟩ : ∃ X, X = W := ⟨_, rfl⟩
                replace H1 := Lib.hid (H1.out.trans (hB.mono H1.out.size))
                replace HB := Lib.hid (HB.out.trans (hB.mono HB.out.size))
                replace kp := Lib.hid (kp.out.keep hB)
                replace kt := Lib.hid (kt.out.keep hB)
                replace ks := Lib.hid (ks.out.keep hB)
                replace km := Lib.hid (km.out.keep hB)
                replace kf := Lib.hid (kf.out.keep hB)
                have kg := Lib.hid hlok16
                clear hlok16
                go_upto_region 9 with fail
                clear hB
                have qs0 : ∀ D : Of (PastV X2), _ := fun D => (ks.out.keep (show Below X2.heap.size X2 D.world from D.holds)).cell (i := 0) rfl
                have qs1 : ∀ D : Of (PastV X2), _ := fun D => (ks.out.keep (show Below X2.heap.size X2 D.world from D.holds)).cell (i := 1) rfl
                have qs2 : ∀ D : Of (PastV X2), _ := fun D => (ks.out.keep (show Below X2.heap.size X2 D.world from D.holds)).cell (i := 2) rfl
                have qs3 : ∀ D : Of (PastV X2), _ := fun D => (ks.out.keep (show Below X2.heap.size X2 D.world from D.holds)).cell (i := 3) rfl
                have qs4 : ∀ D : Of (PastV X2), _ := fun D => (ks.out.keep (show Below X2.heap.size X2 D.world from D.holds)).cell (i := 4) rfl
                have qs5 : ∀ D : Of (PastV X2), _ := fun D => (ks.out.keep (show Below X2.heap.size X2 D.world from D.holds)).cell (i := 5) rfl
                have qs6 : ∀ D : Of (PastV X2), _ := fun D => (ks.out.keep (show Below X2.heap.size X2 D.world from D.holds)).cell (i := 6) rfl
                have qs7 : ∀ D : Of (PastV X2), _ := fun D => (ks.out.keep (show Below X2.heap.size X2 D.world from D.holds)).cell (i := 7) rfl
                have qs8 : ∀ D : Of (PastV X2), _ := fun D => (ks.out.keep (show Below X2.heap.size X2 D.world from D.holds)).cell (i := 8) rfl
                have qf0 : ∀ D : Of (PastV X2), _ := fun D => (kf.out.keep (show Below X2.heap.size X2 D.world from D.holds)).cell (i := 0) rfl
                have qf1 : ∀ D : Of (PastV X2), _ := fun D => (kf.out.keep (show Below X2.heap.size X2 D.world from D.holds)).cell (i := 1) rfl
                have qf2 : ∀ D : Of (PastV X2), _ := fun D => (kf.out.keep (show Below X2.heap.size X2 D.world from D.holds)).cell (i := 2) rfl
                have qg0 : ∀ D : Of (PastV X2), _ := fun D => (kg.out.keep (show Below X2.heap.size X2 D.world from D.holds)).cell (i := 0) rfl
                have qg1 : ∀ D : Of (PastV X2), _ := fun D => (kg.out.keep (show Below X2.heap.size X2 D.world from D.holds)).cell (i := 1) rfl
                have qg2 : ∀ D : Of (PastV X2), _ := fun D => (kg.out.keep (show Below X2.heap.size X2 D.world from D.holds)).cell (i := 2) rfl
                have ST := Lib.hid (pastV_stays X2)
                have ne : Nonempty (Of (PastV X2)) := ⟨⟨X2, Below.refl _ _⟩⟩
                refine wp_region_class (S := PastV X2) (by kernel_rfl) (by kernel_rfl) (Below.refl _ _).drew ?_
                repeat (go_big_quiet_step (fail))
                refine wpQuiet_nil ?_
                rintro _ ⟨D, rfl⟩
                have hD : Below X2.heap.size X2 D.world := D.holds
                have H2 := Lib.hid (H1.out.trans (hD.mono H1.out.size))
                replace HB := Lib.hid (HB.out.trans (hD.mono HB.out.size))
                replace kp := Lib.hid (kp.out.keep hD)
                replace kt := Lib.hid (kt.out.keep hD)
                replace ks := Lib.hid (ks.out.keep hD)
                replace km := Lib.hid (km.out.keep hD)
                replace kf := Lib.hid (kf.out.keep hD)
                replace kg := Lib.hid (kg.out.keep hD)
                generalize D.world = vd at *
                clear qs0 qs1 qs2 qs3 qs4 qs5 qs6 qs7 qs8 qf0 qf1 qf2 qg0 qg1 qg2 ne ST hD
                go_wp2
                go_roundw
                case rel => exact ⟨3, rfl, by omega, H2.out⟩
                case measure => simp [intOf]
          · clear C0 C1 C2 D0 D1 D2 H1
            obtain ⟨bx0, bx1, bx2, hrb⟩ := BX.out
            clear BX
            by_cases hr : 0 ≤ r
            · have y0a := (bx0 hr).1
              have y0b := (bx0 hr).2
              generalize hM0 : min (min qa1 qb1) qc1 = M0 at *
              generalize hN0 : max (max qa1 qb1) qc1 = N0 at *
              replace y0a : decide (M0 ≤ v0) = true := decide_eq_true y0a
              replace y0b : decide (v0 ≤ N0) = true := decide_eq_true y0b
              have y1a := (bx1 hr).1
              have y1b := (bx1 hr).2
              generalize hM1 : min (min qa2 qb2) qc2 = M1 at *
              generalize hN1 : max (max qa2 qb2) qc2 = N1 at *
              replace y1a : decide (M1 ≤ v1) = true := decide_eq_true y1a
              replace y1b : decide (v1 ≤ N1) = true := decide_eq_true y1b
              have y2a := (bx2 hr).1
              have y2b := (bx2 hr).2
              generalize hM2 : min (min qa3 qb3) qc3 = M2 at *
              generalize hN2 : max (max qa3 qb3) qc3 = N2 at *
              replace y2a : decide (M2 ≤ v2) = true := decide_eq_true y2a
              replace y2b : decide (v2 ≤ N2) = true := decide_eq_true y2b
              obtain ⟨i, hi⟩ : ∃ v, r + 1 = v := ⟨_, rfl⟩
              rw [hi] at IN
              have iz : (i == 0) = false := by rw [beq_eq_false_iff_ne]; omega
              clear bx0 bx1 bx2 hrb hr hi
              have p0 := kp.out.cell (i := 0) rfl
              have p1 := kp.out.cell (i := 1) rfl
              have t0 := kt.out.cell (i := 0) rfl
              have t1 := kt.out.cell (i := 1) rfl
              have t2 := kt.out.cell (i := 2) rfl
              have t3 := kt.out.cell (i := 3) rfl
              have t4 := kt.out.cell (i := 4) rfl
              have t5 := kt.out.cell (i := 5) rfl
              go_wp2_with fail
              clear p0 p1 t0 t1 t2 t3 t4 t5
              (((with_reducible refine (IN.out _).mono ?_); rintro e w2 ⟨rfl, hb2⟩); replace HB := Lib.hid (HB.out.trans (hb2.mono HB.out.size)); replace ks := Lib.hid (ks.out.keep hb2); replace km := Lib.hid (km.out.keep hb2); clear hb2)
              go_wp2_with fail
              (((with_reducible refine (ME.out _).mono ?_); rintro e w3 ⟨rfl, hb3⟩); replace HB := Lib.hid (HB.out.trans (hb3.mono HB.out.size)); replace ks := Lib.hid (ks.out.keep hb3); replace km := Lib.hid (km.out.keep hb3); clear hb3)
              clear IN iz
              generalize (.agg #[.int .i64 a1, .int .i64 a2, .int .i64 b1, .int .i64 b2, .int .i64 c1, .int .i64 c2] : Value) = TV
              generalize (.agg #[.int .i64 qa1, .int .i64 qa2, .int .i64 qa3, .int .i64 qb1, .int .i64 qb2, .int .i64 qb3, .int .i64 qc1, .int .i64 qc2, .int .i64 qc3] : Value) = SV
              have s0 := ks.out.cell (i := 0) rfl
              have s1 := ks.out.cell (i := 1) rfl
              have s2 := ks.out.cell (i := 2) rfl
              have s3 := ks.out.cell (i := 3) rfl
              have s4 := ks.out.cell (i := 4) rfl
              have s5 := ks.out.cell (i := 5) rfl
              have s6 := ks.out.cell (i := 6) rfl
              have s7 := ks.out.cell (i := 7) rfl
              have s8 := ks.out.cell (i := 8) rfl
              have m0 := km.out.cell (i := 0) rfl
              have m1 := km.out.cell (i := 1) rfl
              have m2 := km.out.cell (i := 2) rfl
              go_wp2
              go_ret
              exact ⟨rfl, HB.out⟩
            · rw [show r + 1 = 0 by omega] at IN
              clear bx0 bx1 bx2 hrb hr
              have p0 := kp.out.cell (i := 0) rfl
              have p1 := kp.out.cell (i := 1) rfl
              have t0 := kt.out.cell (i := 0) rfl
              have t1 := kt.out.cell (i := 1) rfl
              have t2 := kt.out.cell (i := 2) rfl
              have t3 := kt.out.cell (i := 3) rfl
              have t4 := kt.out.cell (i := 4) rfl
              have t5 := kt.out.cell (i := 5) rfl
              go_wp2_with fail
              clear p0 p1 t0 t1 t2 t3 t4 t5
              (((with_reducible refine (IN.out _).mono ?_); rintro e w2 ⟨rfl, hb2⟩); replace HB := Lib.hid (HB.out.trans (hb2.mono HB.out.size)); replace kp := Lib.hid (kp.out.keep hb2); clear hb2)
              go_wp2_with fail
              (((with_reducible refine (ME.out _).mono ?_); rintro e w3 ⟨rfl, hb3⟩); replace HB := Lib.hid (HB.out.trans (hb3.mono HB.out.size)); replace kp := Lib.hid (kp.out.keep hb3); clear hb3)
              go_wp2
              go_ret
              exact ⟨rfl, HB.out⟩
end Go.Proofs.Ytllamakemgogaaa
