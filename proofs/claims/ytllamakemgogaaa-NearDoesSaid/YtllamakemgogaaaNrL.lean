/-
  The reference limewashref11: Lift. (gen/NrL.py)
-/
import Derived.Test.YtllamakemgogaaaNrK
import Derived.Test.YtllamakemgogaaaGaG
namespace Go.Proofs.Ytllamakemgogaaa
open Go.RowKit

theorem lV_s (u t : Bool) (v : Int) : lV u false t v = 0 := by cases u <;> rfl
theorem lE_s (u t : Bool) : lE u false t = 5 := by cases u <;> rfl
set_option maxRecDepth 100000 in
set_option maxHeartbeats 8000000 in
theorem rlift_any (x y a1 a2 b1 b2 c1 c2 qa1 qa2 qa3 qb1 qb2 qb3 qc1 qc2 qc3 : Int) (w : World) :
    Calls Try.prog 15 #[.agg #[.int .i64 x, .int .i64 y], .agg #[.int .i64 a1, .int .i64 a2, .int .i64 b1, .int .i64 b2, .int .i64 c1, .int .i64 c2], .agg #[.int .i64 qa1, .int .i64 qa2, .int .i64 qa3, .int .i64 qb1, .int .i64 qb2, .int .i64 qb3, .int .i64 qc1, .int .i64 qc2, .int .i64 qc3]] w fun e' w' => e' = .returned (.tuple #[.agg #[.int .i64 (lV (s3 qa1 qa2 qa3 && s3 qb1 qb2 qb3 && s3 qc1 qc2 qc3) (s2 x y) (rT a1 a2 b1 b2 c1 c2) (lf (wA x y a1 a2 b1 b2 c1 c2) (wB x y a1 a2 b1 b2 c1 c2) (wC x y a1 a2 b1 b2 c1 c2) (wW a1 a2 b1 b2 c1 c2) qa1 qb1 qc1)), .int .i64 (lV (s3 qa1 qa2 qa3 && s3 qb1 qb2 qb3 && s3 qc1 qc2 qc3) (s2 x y) (rT a1 a2 b1 b2 c1 c2) (lf (wA x y a1 a2 b1 b2 c1 c2) (wB x y a1 a2 b1 b2 c1 c2) (wC x y a1 a2 b1 b2 c1 c2) (wW a1 a2 b1 b2 c1 c2) qa2 qb2 qc2)), .int .i64 (lV (s3 qa1 qa2 qa3 && s3 qb1 qb2 qb3 && s3 qc1 qc2 qc3) (s2 x y) (rT a1 a2 b1 b2 c1 c2) (lf (wA x y a1 a2 b1 b2 c1 c2) (wB x y a1 a2 b1 b2 c1 c2) (wC x y a1 a2 b1 b2 c1 c2) (wW a1 a2 b1 b2 c1 c2) qa3 qb3 qc3))], .int .i64 (lE (s3 qa1 qa2 qa3 && s3 qb1 qb2 qb3 && s3 qc1 qc2 qc3) (s2 x y) (rT a1 a2 b1 b2 c1 c2))]) ∧ Below w.heap.size w w' := by
  have HB := Lib.hid (Below.refl w.heap.size w)
  have S0 := Lib.hid (fun W => rsmall2_any x y W)
  have S1 := Lib.hid (fun W => rsmall3_any qa1 qa2 qa3 W)
  have S2 := Lib.hid (fun W => rsmall3_any qb1 qb2 qb3 W)
  have S3 := Lib.hid (fun W => rsmall3_any qc1 qc2 qc3 W)
  have WT := Lib.hid (fun W => rweights_any x y a1 a2 b1 b2 c1 c2 W)
  cases hs : s2 x y with
  | false =>
    rw [hs] at S0
    simp only [lV_s, lE_s]
    clear hs S1 S2 S3 WT
    go_enter Try.func15, Try.ntmps15
    go_upto_region 1 with fail
    have hbp := below_new1 w (.cells #[.int .i64 x, .int .i64 y] 23)
    have zp : (w.alloc (.cells #[.int .i64 x, .int .i64 y] 23)).heap.size = w.heap.size + 1 := by simp
    have HB := Lib.hid hbp
    have kp := Lib.hid (Lok.new w 23 #[.int .i64 x, .int .i64 y])
    clear hbp
    generalize w.alloc (.cells #[.int .i64 x, .int .i64 y] 23) = Vp at *
    have hbt := below_new1 Vp (.cells #[.int .i64 a1, .int .i64 a2, .int .i64 b1, .int .i64 b2, .int .i64 c1, .int .i64 c2] 24)
    replace kp := Lib.hid (kp.out.keep hbt)
    have zt : (Vp.alloc (.cells #[.int .i64 a1, .int .i64 a2, .int .i64 b1, .int .i64 b2, .int .i64 c1, .int .i64 c2] 24)).heap.size = Vp.heap.size + 1 := by simp
    replace HB := Lib.hid (HB.out.trans (hbt.mono HB.out.size))
    have kt := Lib.hid (Lok.new Vp 24 #[.int .i64 a1, .int .i64 a2, .int .i64 b1, .int .i64 b2, .int .i64 c1, .int .i64 c2])
    clear hbt
    generalize Vp.alloc (.cells #[.int .i64 a1, .int .i64 a2, .int .i64 b1, .int .i64 b2, .int .i64 c1, .int .i64 c2] 24) = Vt at *
    rw [zp] at kt zt
    have hbs := below_new1 Vt (.cells #[.int .i64 qa1, .int .i64 qa2, .int .i64 qa3, .int .i64 qb1, .int .i64 qb2, .int .i64 qb3, .int .i64 qc1, .int .i64 qc2, .int .i64 qc3] 27)
    replace kp := Lib.hid (kp.out.keep hbs)
    replace kt := Lib.hid (kt.out.keep hbs)
    have zs : (Vt.alloc (.cells #[.int .i64 qa1, .int .i64 qa2, .int .i64 qa3, .int .i64 qb1, .int .i64 qb2, .int .i64 qb3, .int .i64 qc1, .int .i64 qc2, .int .i64 qc3] 27)).heap.size = Vt.heap.size + 1 := by simp
    replace HB := Lib.hid (HB.out.trans (hbs.mono HB.out.size))
    have ks := Lib.hid (Lok.new Vt 27 #[.int .i64 qa1, .int .i64 qa2, .int .i64 qa3, .int .i64 qb1, .int .i64 qb2, .int .i64 qb3, .int .i64 qc1, .int .i64 qc2, .int .i64 qc3])
    clear hbs
    generalize Vt.alloc (.cells #[.int .i64 qa1, .int .i64 qa2, .int .i64 qa3, .int .i64 qb1, .int .i64 qb2, .int .i64 qb3, .int .i64 qc1, .int .i64 qc2, .int .i64 qc3] 27) = Vs at *
    rw [zt] at ks zs
    have hbr := below_new1 Vs (.cells #[.int .i64 0, .int .i64 0, .int .i64 0] 26)
    replace kp := Lib.hid (kp.out.keep hbr)
    replace kt := Lib.hid (kt.out.keep hbr)
    replace ks := Lib.hid (ks.out.keep hbr)
    have zr : (Vs.alloc (.cells #[.int .i64 0, .int .i64 0, .int .i64 0] 26)).heap.size = Vs.heap.size + 1 := by simp
    replace HB := Lib.hid (HB.out.trans (hbr.mono HB.out.size))
    have kr := Lib.hid (Lok.new Vs 26 #[.int .i64 0, .int .i64 0, .int .i64 0])
    clear hbr
    generalize Vs.alloc (.cells #[.int .i64 0, .int .i64 0, .int .i64 0] 26) = Vr at *
    rw [zs] at kr
    clear zp zt zs zr
    have p0 := kp.out.cell (i := 0) rfl
    have p1 := kp.out.cell (i := 1) rfl
    go_wp2_with fail
    clear p0 p1
    (((with_reducible refine (S0.out _).mono ?_); rintro e w1 ⟨rfl, hb1⟩); replace HB := Lib.hid (HB.out.trans (hb1.mono HB.out.size)); replace kp := Lib.hid (kp.out.keep hb1); replace kt := Lib.hid (kt.out.keep hb1); replace ks := Lib.hid (ks.out.keep hb1); replace kr := Lib.hid (kr.out.keep hb1); clear hb1)
    have r0 := kr.out.cell (i := 0) rfl
    have r1 := kr.out.cell (i := 1) rfl
    have r2 := kr.out.cell (i := 2) rfl
    have fr0 := kr.out.frozen 0
    have fr1 := kr.out.frozen 1
    have fr2 := kr.out.frozen 2
    go_wp2_with fail
    exact bodyPost_ret (v := .tuple #[.agg #[.int .i64 0, .int .i64 0, .int .i64 0], .int .i64 5]) (by simp [results, Try.results15, go_sem, r0, r1, r2]) rfl ⟨rfl, ((HB.out.setCell (by simp <;> omega) _).setCell (by simp <;> omega) _).setCell (by simp <;> omega) _⟩
  | true =>
    rw [hs] at S0
    cases h1 : s3 qa1 qa2 qa3 with
    | false =>
      rw [h1] at S1
      simp only [Bool.false_and, lV_no, lE_no]
      clear h1 WT S2 S3
      go_enter Try.func15, Try.ntmps15
      go_upto_region 1 with fail
      have hbp := below_new1 w (.cells #[.int .i64 x, .int .i64 y] 23)
      have zp : (w.alloc (.cells #[.int .i64 x, .int .i64 y] 23)).heap.size = w.heap.size + 1 := by simp
      have HB := Lib.hid hbp
      have kp := Lib.hid (Lok.new w 23 #[.int .i64 x, .int .i64 y])
      clear hbp
      generalize w.alloc (.cells #[.int .i64 x, .int .i64 y] 23) = Vp at *
      have hbt := below_new1 Vp (.cells #[.int .i64 a1, .int .i64 a2, .int .i64 b1, .int .i64 b2, .int .i64 c1, .int .i64 c2] 24)
      replace kp := Lib.hid (kp.out.keep hbt)
      have zt : (Vp.alloc (.cells #[.int .i64 a1, .int .i64 a2, .int .i64 b1, .int .i64 b2, .int .i64 c1, .int .i64 c2] 24)).heap.size = Vp.heap.size + 1 := by simp
      replace HB := Lib.hid (HB.out.trans (hbt.mono HB.out.size))
      have kt := Lib.hid (Lok.new Vp 24 #[.int .i64 a1, .int .i64 a2, .int .i64 b1, .int .i64 b2, .int .i64 c1, .int .i64 c2])
      clear hbt
      generalize Vp.alloc (.cells #[.int .i64 a1, .int .i64 a2, .int .i64 b1, .int .i64 b2, .int .i64 c1, .int .i64 c2] 24) = Vt at *
      rw [zp] at kt zt
      have hbs := below_new1 Vt (.cells #[.int .i64 qa1, .int .i64 qa2, .int .i64 qa3, .int .i64 qb1, .int .i64 qb2, .int .i64 qb3, .int .i64 qc1, .int .i64 qc2, .int .i64 qc3] 27)
      replace kp := Lib.hid (kp.out.keep hbs)
      replace kt := Lib.hid (kt.out.keep hbs)
      have zs : (Vt.alloc (.cells #[.int .i64 qa1, .int .i64 qa2, .int .i64 qa3, .int .i64 qb1, .int .i64 qb2, .int .i64 qb3, .int .i64 qc1, .int .i64 qc2, .int .i64 qc3] 27)).heap.size = Vt.heap.size + 1 := by simp
      replace HB := Lib.hid (HB.out.trans (hbs.mono HB.out.size))
      have ks := Lib.hid (Lok.new Vt 27 #[.int .i64 qa1, .int .i64 qa2, .int .i64 qa3, .int .i64 qb1, .int .i64 qb2, .int .i64 qb3, .int .i64 qc1, .int .i64 qc2, .int .i64 qc3])
      clear hbs
      generalize Vt.alloc (.cells #[.int .i64 qa1, .int .i64 qa2, .int .i64 qa3, .int .i64 qb1, .int .i64 qb2, .int .i64 qb3, .int .i64 qc1, .int .i64 qc2, .int .i64 qc3] 27) = Vs at *
      rw [zt] at ks zs
      have hbr := below_new1 Vs (.cells #[.int .i64 0, .int .i64 0, .int .i64 0] 26)
      replace kp := Lib.hid (kp.out.keep hbr)
      replace kt := Lib.hid (kt.out.keep hbr)
      replace ks := Lib.hid (ks.out.keep hbr)
      have zr : (Vs.alloc (.cells #[.int .i64 0, .int .i64 0, .int .i64 0] 26)).heap.size = Vs.heap.size + 1 := by simp
      replace HB := Lib.hid (HB.out.trans (hbr.mono HB.out.size))
      have kr := Lib.hid (Lok.new Vs 26 #[.int .i64 0, .int .i64 0, .int .i64 0])
      clear hbr
      generalize Vs.alloc (.cells #[.int .i64 0, .int .i64 0, .int .i64 0] 26) = Vr at *
      rw [zs] at kr
      clear zp zt zs zr
      have p0 := kp.out.cell (i := 0) rfl
      have p1 := kp.out.cell (i := 1) rfl
      go_wp2_with fail
      clear p0 p1
      (((with_reducible refine (S0.out _).mono ?_); rintro e w1 ⟨rfl, hb1⟩); replace HB := Lib.hid (HB.out.trans (hb1.mono HB.out.size)); replace kp := Lib.hid (kp.out.keep hb1); replace kt := Lib.hid (kt.out.keep hb1); replace ks := Lib.hid (ks.out.keep hb1); replace kr := Lib.hid (kr.out.keep hb1); clear hb1)
      have s0 := ks.out.cell (i := 0) rfl
      have s1 := ks.out.cell (i := 1) rfl
      have s2 := ks.out.cell (i := 2) rfl
      have s3 := ks.out.cell (i := 3) rfl
      have s4 := ks.out.cell (i := 4) rfl
      have s5 := ks.out.cell (i := 5) rfl
      have s6 := ks.out.cell (i := 6) rfl
      have s7 := ks.out.cell (i := 7) rfl
      have s8 := ks.out.cell (i := 8) rfl
      go_wp2_with fail
      clear s0 s1 s2 s3 s4 s5 s6 s7 s8
      (((with_reducible refine (S1.out _).mono ?_); rintro e w2 ⟨rfl, hb2⟩); replace HB := Lib.hid (HB.out.trans (hb2.mono HB.out.size)); replace kp := Lib.hid (kp.out.keep hb2); replace kt := Lib.hid (kt.out.keep hb2); replace ks := Lib.hid (ks.out.keep hb2); replace kr := Lib.hid (kr.out.keep hb2); clear hb2)
      have r0 := kr.out.cell (i := 0) rfl
      have r1 := kr.out.cell (i := 1) rfl
      have r2 := kr.out.cell (i := 2) rfl
      have fr0 := kr.out.frozen 0
      have fr1 := kr.out.frozen 1
      have fr2 := kr.out.frozen 2
      go_wp2_with fail
      exact bodyPost_ret (v := .tuple #[.agg #[.int .i64 0, .int .i64 0, .int .i64 0], .int .i64 5]) (by simp [results, Try.results15, go_sem, r0, r1, r2]) rfl ⟨rfl, ((HB.out.setCell (by simp <;> omega) _).setCell (by simp <;> omega) _).setCell (by simp <;> omega) _⟩
    | true =>
      rw [h1] at S1
      cases h2 : s3 qb1 qb2 qb3 with
      | false =>
        rw [h2] at S2
        simp only [Bool.and_false, Bool.false_and, lV_no, lE_no]
        clear h1 h2 WT S3
        go_enter Try.func15, Try.ntmps15
        go_upto_region 1 with fail
        have hbp := below_new1 w (.cells #[.int .i64 x, .int .i64 y] 23)
        have zp : (w.alloc (.cells #[.int .i64 x, .int .i64 y] 23)).heap.size = w.heap.size + 1 := by simp
        have HB := Lib.hid hbp
        have kp := Lib.hid (Lok.new w 23 #[.int .i64 x, .int .i64 y])
        clear hbp
        generalize w.alloc (.cells #[.int .i64 x, .int .i64 y] 23) = Vp at *
        have hbt := below_new1 Vp (.cells #[.int .i64 a1, .int .i64 a2, .int .i64 b1, .int .i64 b2, .int .i64 c1, .int .i64 c2] 24)
        replace kp := Lib.hid (kp.out.keep hbt)
        have zt : (Vp.alloc (.cells #[.int .i64 a1, .int .i64 a2, .int .i64 b1, .int .i64 b2, .int .i64 c1, .int .i64 c2] 24)).heap.size = Vp.heap.size + 1 := by simp
        replace HB := Lib.hid (HB.out.trans (hbt.mono HB.out.size))
        have kt := Lib.hid (Lok.new Vp 24 #[.int .i64 a1, .int .i64 a2, .int .i64 b1, .int .i64 b2, .int .i64 c1, .int .i64 c2])
        clear hbt
        generalize Vp.alloc (.cells #[.int .i64 a1, .int .i64 a2, .int .i64 b1, .int .i64 b2, .int .i64 c1, .int .i64 c2] 24) = Vt at *
        rw [zp] at kt zt
        have hbs := below_new1 Vt (.cells #[.int .i64 qa1, .int .i64 qa2, .int .i64 qa3, .int .i64 qb1, .int .i64 qb2, .int .i64 qb3, .int .i64 qc1, .int .i64 qc2, .int .i64 qc3] 27)
        replace kp := Lib.hid (kp.out.keep hbs)
        replace kt := Lib.hid (kt.out.keep hbs)
        have zs : (Vt.alloc (.cells #[.int .i64 qa1, .int .i64 qa2, .int .i64 qa3, .int .i64 qb1, .int .i64 qb2, .int .i64 qb3, .int .i64 qc1, .int .i64 qc2, .int .i64 qc3] 27)).heap.size = Vt.heap.size + 1 := by simp
        replace HB := Lib.hid (HB.out.trans (hbs.mono HB.out.size))
        have ks := Lib.hid (Lok.new Vt 27 #[.int .i64 qa1, .int .i64 qa2, .int .i64 qa3, .int .i64 qb1, .int .i64 qb2, .int .i64 qb3, .int .i64 qc1, .int .i64 qc2, .int .i64 qc3])
        clear hbs
        generalize Vt.alloc (.cells #[.int .i64 qa1, .int .i64 qa2, .int .i64 qa3, .int .i64 qb1, .int .i64 qb2, .int .i64 qb3, .int .i64 qc1, .int .i64 qc2, .int .i64 qc3] 27) = Vs at *
        rw [zt] at ks zs
        have hbr := below_new1 Vs (.cells #[.int .i64 0, .int .i64 0, .int .i64 0] 26)
        replace kp := Lib.hid (kp.out.keep hbr)
        replace kt := Lib.hid (kt.out.keep hbr)
        replace ks := Lib.hid (ks.out.keep hbr)
        have zr : (Vs.alloc (.cells #[.int .i64 0, .int .i64 0, .int .i64 0] 26)).heap.size = Vs.heap.size + 1 := by simp
        replace HB := Lib.hid (HB.out.trans (hbr.mono HB.out.size))
        have kr := Lib.hid (Lok.new Vs 26 #[.int .i64 0, .int .i64 0, .int .i64 0])
        clear hbr
        generalize Vs.alloc (.cells #[.int .i64 0, .int .i64 0, .int .i64 0] 26) = Vr at *
        rw [zs] at kr
        clear zp zt zs zr
        have p0 := kp.out.cell (i := 0) rfl
        have p1 := kp.out.cell (i := 1) rfl
        go_wp2_with fail
        clear p0 p1
        (((with_reducible refine (S0.out _).mono ?_); rintro e w1 ⟨rfl, hb1⟩); replace HB := Lib.hid (HB.out.trans (hb1.mono HB.out.size)); replace kp := Lib.hid (kp.out.keep hb1); replace kt := Lib.hid (kt.out.keep hb1); replace ks := Lib.hid (ks.out.keep hb1); replace kr := Lib.hid (kr.out.keep hb1); clear hb1)
        have s0 := ks.out.cell (i := 0) rfl
        have s1 := ks.out.cell (i := 1) rfl
        have s2 := ks.out.cell (i := 2) rfl
        have s3 := ks.out.cell (i := 3) rfl
        have s4 := ks.out.cell (i := 4) rfl
        have s5 := ks.out.cell (i := 5) rfl
        have s6 := ks.out.cell (i := 6) rfl
        have s7 := ks.out.cell (i := 7) rfl
        have s8 := ks.out.cell (i := 8) rfl
        go_wp2_with fail
        clear s0 s1 s2 s3 s4 s5 s6 s7 s8
        (((with_reducible refine (S1.out _).mono ?_); rintro e w2 ⟨rfl, hb2⟩); replace HB := Lib.hid (HB.out.trans (hb2.mono HB.out.size)); replace kp := Lib.hid (kp.out.keep hb2); replace kt := Lib.hid (kt.out.keep hb2); replace ks := Lib.hid (ks.out.keep hb2); replace kr := Lib.hid (kr.out.keep hb2); clear hb2)
        have s0 := ks.out.cell (i := 0) rfl
        have s1 := ks.out.cell (i := 1) rfl
        have s2 := ks.out.cell (i := 2) rfl
        have s3 := ks.out.cell (i := 3) rfl
        have s4 := ks.out.cell (i := 4) rfl
        have s5 := ks.out.cell (i := 5) rfl
        have s6 := ks.out.cell (i := 6) rfl
        have s7 := ks.out.cell (i := 7) rfl
        have s8 := ks.out.cell (i := 8) rfl
        go_wp2_with fail
        clear s0 s1 s2 s3 s4 s5 s6 s7 s8
        (((with_reducible refine (S2.out _).mono ?_); rintro e w3 ⟨rfl, hb3⟩); replace HB := Lib.hid (HB.out.trans (hb3.mono HB.out.size)); replace kp := Lib.hid (kp.out.keep hb3); replace kt := Lib.hid (kt.out.keep hb3); replace ks := Lib.hid (ks.out.keep hb3); replace kr := Lib.hid (kr.out.keep hb3); clear hb3)
        have r0 := kr.out.cell (i := 0) rfl
        have r1 := kr.out.cell (i := 1) rfl
        have r2 := kr.out.cell (i := 2) rfl
        have fr0 := kr.out.frozen 0
        have fr1 := kr.out.frozen 1
        have fr2 := kr.out.frozen 2
        go_wp2_with fail
        exact bodyPost_ret (v := .tuple #[.agg #[.int .i64 0, .int .i64 0, .int .i64 0], .int .i64 5]) (by simp [results, Try.results15, go_sem, r0, r1, r2]) rfl ⟨rfl, ((HB.out.setCell (by simp <;> omega) _).setCell (by simp <;> omega) _).setCell (by simp <;> omega) _⟩
      | true =>
        rw [h2] at S2
        cases h3 : s3 qc1 qc2 qc3 with
        | false =>
          rw [h3] at S3
          simp only [Bool.and_false, lV_no, lE_no]
          clear h1 h2 h3 WT
          go_enter Try.func15, Try.ntmps15
          go_upto_region 1 with fail
          have hbp := below_new1 w (.cells #[.int .i64 x, .int .i64 y] 23)
          have zp : (w.alloc (.cells #[.int .i64 x, .int .i64 y] 23)).heap.size = w.heap.size + 1 := by simp
          have HB := Lib.hid hbp
          have kp := Lib.hid (Lok.new w 23 #[.int .i64 x, .int .i64 y])
          clear hbp
          generalize w.alloc (.cells #[.int .i64 x, .int .i64 y] 23) = Vp at *
          have hbt := below_new1 Vp (.cells #[.int .i64 a1, .int .i64 a2, .int .i64 b1, .int .i64 b2, .int .i64 c1, .int .i64 c2] 24)
          replace kp := Lib.hid (kp.out.keep hbt)
          have zt : (Vp.alloc (.cells #[.int .i64 a1, .int .i64 a2, .int .i64 b1, .int .i64 b2, .int .i64 c1, .int .i64 c2] 24)).heap.size = Vp.heap.size + 1 := by simp
          replace HB := Lib.hid (HB.out.trans (hbt.mono HB.out.size))
          have kt := Lib.hid (Lok.new Vp 24 #[.int .i64 a1, .int .i64 a2, .int .i64 b1, .int .i64 b2, .int .i64 c1, .int .i64 c2])
          clear hbt
          generalize Vp.alloc (.cells #[.int .i64 a1, .int .i64 a2, .int .i64 b1, .int .i64 b2, .int .i64 c1, .int .i64 c2] 24) = Vt at *
          rw [zp] at kt zt
          have hbs := below_new1 Vt (.cells #[.int .i64 qa1, .int .i64 qa2, .int .i64 qa3, .int .i64 qb1, .int .i64 qb2, .int .i64 qb3, .int .i64 qc1, .int .i64 qc2, .int .i64 qc3] 27)
          replace kp := Lib.hid (kp.out.keep hbs)
          replace kt := Lib.hid (kt.out.keep hbs)
          have zs : (Vt.alloc (.cells #[.int .i64 qa1, .int .i64 qa2, .int .i64 qa3, .int .i64 qb1, .int .i64 qb2, .int .i64 qb3, .int .i64 qc1, .int .i64 qc2, .int .i64 qc3] 27)).heap.size = Vt.heap.size + 1 := by simp
          replace HB := Lib.hid (HB.out.trans (hbs.mono HB.out.size))
          have ks := Lib.hid (Lok.new Vt 27 #[.int .i64 qa1, .int .i64 qa2, .int .i64 qa3, .int .i64 qb1, .int .i64 qb2, .int .i64 qb3, .int .i64 qc1, .int .i64 qc2, .int .i64 qc3])
          clear hbs
          generalize Vt.alloc (.cells #[.int .i64 qa1, .int .i64 qa2, .int .i64 qa3, .int .i64 qb1, .int .i64 qb2, .int .i64 qb3, .int .i64 qc1, .int .i64 qc2, .int .i64 qc3] 27) = Vs at *
          rw [zt] at ks zs
          have hbr := below_new1 Vs (.cells #[.int .i64 0, .int .i64 0, .int .i64 0] 26)
          replace kp := Lib.hid (kp.out.keep hbr)
          replace kt := Lib.hid (kt.out.keep hbr)
          replace ks := Lib.hid (ks.out.keep hbr)
          have zr : (Vs.alloc (.cells #[.int .i64 0, .int .i64 0, .int .i64 0] 26)).heap.size = Vs.heap.size + 1 := by simp
          replace HB := Lib.hid (HB.out.trans (hbr.mono HB.out.size))
          have kr := Lib.hid (Lok.new Vs 26 #[.int .i64 0, .int .i64 0, .int .i64 0])
          clear hbr
          generalize Vs.alloc (.cells #[.int .i64 0, .int .i64 0, .int .i64 0] 26) = Vr at *
          rw [zs] at kr
          clear zp zt zs zr
          have p0 := kp.out.cell (i := 0) rfl
          have p1 := kp.out.cell (i := 1) rfl
          go_wp2_with fail
          clear p0 p1
          (((with_reducible refine (S0.out _).mono ?_); rintro e w1 ⟨rfl, hb1⟩); replace HB := Lib.hid (HB.out.trans (hb1.mono HB.out.size)); replace kp := Lib.hid (kp.out.keep hb1); replace kt := Lib.hid (kt.out.keep hb1); replace ks := Lib.hid (ks.out.keep hb1); replace kr := Lib.hid (kr.out.keep hb1); clear hb1)
          have s0 := ks.out.cell (i := 0) rfl
          have s1 := ks.out.cell (i := 1) rfl
          have s2 := ks.out.cell (i := 2) rfl
          have s3 := ks.out.cell (i := 3) rfl
          have s4 := ks.out.cell (i := 4) rfl
          have s5 := ks.out.cell (i := 5) rfl
          have s6 := ks.out.cell (i := 6) rfl
          have s7 := ks.out.cell (i := 7) rfl
          have s8 := ks.out.cell (i := 8) rfl
          go_wp2_with fail
          clear s0 s1 s2 s3 s4 s5 s6 s7 s8
          (((with_reducible refine (S1.out _).mono ?_); rintro e w2 ⟨rfl, hb2⟩); replace HB := Lib.hid (HB.out.trans (hb2.mono HB.out.size)); replace kp := Lib.hid (kp.out.keep hb2); replace kt := Lib.hid (kt.out.keep hb2); replace ks := Lib.hid (ks.out.keep hb2); replace kr := Lib.hid (kr.out.keep hb2); clear hb2)
          have s0 := ks.out.cell (i := 0) rfl
          have s1 := ks.out.cell (i := 1) rfl
          have s2 := ks.out.cell (i := 2) rfl
          have s3 := ks.out.cell (i := 3) rfl
          have s4 := ks.out.cell (i := 4) rfl
          have s5 := ks.out.cell (i := 5) rfl
          have s6 := ks.out.cell (i := 6) rfl
          have s7 := ks.out.cell (i := 7) rfl
          have s8 := ks.out.cell (i := 8) rfl
          go_wp2_with fail
          clear s0 s1 s2 s3 s4 s5 s6 s7 s8
          (((with_reducible refine (S2.out _).mono ?_); rintro e w3 ⟨rfl, hb3⟩); replace HB := Lib.hid (HB.out.trans (hb3.mono HB.out.size)); replace kp := Lib.hid (kp.out.keep hb3); replace kt := Lib.hid (kt.out.keep hb3); replace ks := Lib.hid (ks.out.keep hb3); replace kr := Lib.hid (kr.out.keep hb3); clear hb3)
          have s0 := ks.out.cell (i := 0) rfl
          have s1 := ks.out.cell (i := 1) rfl
          have s2 := ks.out.cell (i := 2) rfl
          have s3 := ks.out.cell (i := 3) rfl
          have s4 := ks.out.cell (i := 4) rfl
          have s5 := ks.out.cell (i := 5) rfl
          have s6 := ks.out.cell (i := 6) rfl
          have s7 := ks.out.cell (i := 7) rfl
          have s8 := ks.out.cell (i := 8) rfl
          go_wp2_with fail
          clear s0 s1 s2 s3 s4 s5 s6 s7 s8
          (((with_reducible refine (S3.out _).mono ?_); rintro e w4 ⟨rfl, hb4⟩); replace HB := Lib.hid (HB.out.trans (hb4.mono HB.out.size)); replace kp := Lib.hid (kp.out.keep hb4); replace kt := Lib.hid (kt.out.keep hb4); replace ks := Lib.hid (ks.out.keep hb4); replace kr := Lib.hid (kr.out.keep hb4); clear hb4)
          have r0 := kr.out.cell (i := 0) rfl
          have r1 := kr.out.cell (i := 1) rfl
          have r2 := kr.out.cell (i := 2) rfl
          have fr0 := kr.out.frozen 0
          have fr1 := kr.out.frozen 1
          have fr2 := kr.out.frozen 2
          go_wp2_with fail
          exact bodyPost_ret (v := .tuple #[.agg #[.int .i64 0, .int .i64 0, .int .i64 0], .int .i64 5]) (by simp [results, Try.results15, go_sem, r0, r1, r2]) rfl ⟨rfl, ((HB.out.setCell (by simp <;> omega) _).setCell (by simp <;> omega) _).setCell (by simp <;> omega) _⟩
        | true =>
          rw [h3] at S3
          simp only [Bool.and_self, lV_yes, lE_yes]
          cases ha : rT a1 a2 b1 b2 c1 c2 with
          | false =>
            simp only [hs, ha, gV_arg, iE_arg] at WT ⊢
            clear hs ha h1 h2 h3
            go_enter Try.func15, Try.ntmps15
            go_upto_region 1 with fail
            have hbp := below_new1 w (.cells #[.int .i64 x, .int .i64 y] 23)
            have zp : (w.alloc (.cells #[.int .i64 x, .int .i64 y] 23)).heap.size = w.heap.size + 1 := by simp
            have HB := Lib.hid hbp
            have kp := Lib.hid (Lok.new w 23 #[.int .i64 x, .int .i64 y])
            clear hbp
            generalize w.alloc (.cells #[.int .i64 x, .int .i64 y] 23) = Vp at *
            have hbt := below_new1 Vp (.cells #[.int .i64 a1, .int .i64 a2, .int .i64 b1, .int .i64 b2, .int .i64 c1, .int .i64 c2] 24)
            replace kp := Lib.hid (kp.out.keep hbt)
            have zt : (Vp.alloc (.cells #[.int .i64 a1, .int .i64 a2, .int .i64 b1, .int .i64 b2, .int .i64 c1, .int .i64 c2] 24)).heap.size = Vp.heap.size + 1 := by simp
            replace HB := Lib.hid (HB.out.trans (hbt.mono HB.out.size))
            have kt := Lib.hid (Lok.new Vp 24 #[.int .i64 a1, .int .i64 a2, .int .i64 b1, .int .i64 b2, .int .i64 c1, .int .i64 c2])
            clear hbt
            generalize Vp.alloc (.cells #[.int .i64 a1, .int .i64 a2, .int .i64 b1, .int .i64 b2, .int .i64 c1, .int .i64 c2] 24) = Vt at *
            rw [zp] at kt zt
            have hbs := below_new1 Vt (.cells #[.int .i64 qa1, .int .i64 qa2, .int .i64 qa3, .int .i64 qb1, .int .i64 qb2, .int .i64 qb3, .int .i64 qc1, .int .i64 qc2, .int .i64 qc3] 27)
            replace kp := Lib.hid (kp.out.keep hbs)
            replace kt := Lib.hid (kt.out.keep hbs)
            have zs : (Vt.alloc (.cells #[.int .i64 qa1, .int .i64 qa2, .int .i64 qa3, .int .i64 qb1, .int .i64 qb2, .int .i64 qb3, .int .i64 qc1, .int .i64 qc2, .int .i64 qc3] 27)).heap.size = Vt.heap.size + 1 := by simp
            replace HB := Lib.hid (HB.out.trans (hbs.mono HB.out.size))
            have ks := Lib.hid (Lok.new Vt 27 #[.int .i64 qa1, .int .i64 qa2, .int .i64 qa3, .int .i64 qb1, .int .i64 qb2, .int .i64 qb3, .int .i64 qc1, .int .i64 qc2, .int .i64 qc3])
            clear hbs
            generalize Vt.alloc (.cells #[.int .i64 qa1, .int .i64 qa2, .int .i64 qa3, .int .i64 qb1, .int .i64 qb2, .int .i64 qb3, .int .i64 qc1, .int .i64 qc2, .int .i64 qc3] 27) = Vs at *
            rw [zt] at ks zs
            have hbr := below_new1 Vs (.cells #[.int .i64 0, .int .i64 0, .int .i64 0] 26)
            replace kp := Lib.hid (kp.out.keep hbr)
            replace kt := Lib.hid (kt.out.keep hbr)
            replace ks := Lib.hid (ks.out.keep hbr)
            have zr : (Vs.alloc (.cells #[.int .i64 0, .int .i64 0, .int .i64 0] 26)).heap.size = Vs.heap.size + 1 := by simp
            replace HB := Lib.hid (HB.out.trans (hbr.mono HB.out.size))
            have kr := Lib.hid (Lok.new Vs 26 #[.int .i64 0, .int .i64 0, .int .i64 0])
            clear hbr
            generalize Vs.alloc (.cells #[.int .i64 0, .int .i64 0, .int .i64 0] 26) = Vr at *
            rw [zs] at kr
            clear zp zt zs zr
            have p0 := kp.out.cell (i := 0) rfl
            have p1 := kp.out.cell (i := 1) rfl
            go_wp2_with fail
            clear p0 p1
            (((with_reducible refine (S0.out _).mono ?_); rintro e w1 ⟨rfl, hb1⟩); replace HB := Lib.hid (HB.out.trans (hb1.mono HB.out.size)); replace kp := Lib.hid (kp.out.keep hb1); replace kt := Lib.hid (kt.out.keep hb1); replace ks := Lib.hid (ks.out.keep hb1); replace kr := Lib.hid (kr.out.keep hb1); clear hb1)
            have s0 := ks.out.cell (i := 0) rfl
            have s1 := ks.out.cell (i := 1) rfl
            have s2 := ks.out.cell (i := 2) rfl
            have s3 := ks.out.cell (i := 3) rfl
            have s4 := ks.out.cell (i := 4) rfl
            have s5 := ks.out.cell (i := 5) rfl
            have s6 := ks.out.cell (i := 6) rfl
            have s7 := ks.out.cell (i := 7) rfl
            have s8 := ks.out.cell (i := 8) rfl
            go_wp2_with fail
            clear s0 s1 s2 s3 s4 s5 s6 s7 s8
            (((with_reducible refine (S1.out _).mono ?_); rintro e w2 ⟨rfl, hb2⟩); replace HB := Lib.hid (HB.out.trans (hb2.mono HB.out.size)); replace kp := Lib.hid (kp.out.keep hb2); replace kt := Lib.hid (kt.out.keep hb2); replace ks := Lib.hid (ks.out.keep hb2); replace kr := Lib.hid (kr.out.keep hb2); clear hb2)
            have s0 := ks.out.cell (i := 0) rfl
            have s1 := ks.out.cell (i := 1) rfl
            have s2 := ks.out.cell (i := 2) rfl
            have s3 := ks.out.cell (i := 3) rfl
            have s4 := ks.out.cell (i := 4) rfl
            have s5 := ks.out.cell (i := 5) rfl
            have s6 := ks.out.cell (i := 6) rfl
            have s7 := ks.out.cell (i := 7) rfl
            have s8 := ks.out.cell (i := 8) rfl
            go_wp2_with fail
            clear s0 s1 s2 s3 s4 s5 s6 s7 s8
            (((with_reducible refine (S2.out _).mono ?_); rintro e w3 ⟨rfl, hb3⟩); replace HB := Lib.hid (HB.out.trans (hb3.mono HB.out.size)); replace kp := Lib.hid (kp.out.keep hb3); replace kt := Lib.hid (kt.out.keep hb3); replace ks := Lib.hid (ks.out.keep hb3); replace kr := Lib.hid (kr.out.keep hb3); clear hb3)
            have s0 := ks.out.cell (i := 0) rfl
            have s1 := ks.out.cell (i := 1) rfl
            have s2 := ks.out.cell (i := 2) rfl
            have s3 := ks.out.cell (i := 3) rfl
            have s4 := ks.out.cell (i := 4) rfl
            have s5 := ks.out.cell (i := 5) rfl
            have s6 := ks.out.cell (i := 6) rfl
            have s7 := ks.out.cell (i := 7) rfl
            have s8 := ks.out.cell (i := 8) rfl
            go_wp2_with fail
            clear s0 s1 s2 s3 s4 s5 s6 s7 s8
            (((with_reducible refine (S3.out _).mono ?_); rintro e w4 ⟨rfl, hb4⟩); replace HB := Lib.hid (HB.out.trans (hb4.mono HB.out.size)); replace kp := Lib.hid (kp.out.keep hb4); replace kt := Lib.hid (kt.out.keep hb4); replace ks := Lib.hid (ks.out.keep hb4); replace kr := Lib.hid (kr.out.keep hb4); clear hb4)
            clear S0 S1 S2 S3
            have p0 := kp.out.cell (i := 0) rfl
            have p1 := kp.out.cell (i := 1) rfl
            have t0 := kt.out.cell (i := 0) rfl
            have t1 := kt.out.cell (i := 1) rfl
            have t2 := kt.out.cell (i := 2) rfl
            have t3 := kt.out.cell (i := 3) rfl
            have t4 := kt.out.cell (i := 4) rfl
            have t5 := kt.out.cell (i := 5) rfl
            go_wp2_with fail
            clear p0 p1 t0 t1 t2 t3 t4 t5
            (((with_reducible refine (WT.out _).mono ?_); rintro e w5 ⟨rfl, hb5⟩); replace HB := Lib.hid (HB.out.trans (hb5.mono HB.out.size)); replace kp := Lib.hid (kp.out.keep hb5); replace kt := Lib.hid (kt.out.keep hb5); replace ks := Lib.hid (ks.out.keep hb5); replace kr := Lib.hid (kr.out.keep hb5); clear hb5)
            go_upto_region 4 with fail
            have hlt := kr.out.lt
            have hbm := below_new1 w5 (.cells #[.int .i64 0, .int .i64 0, .int .i64 0] 35)
            replace kp := Lib.hid (kp.out.keep hbm)
            replace kt := Lib.hid (kt.out.keep hbm)
            replace ks := Lib.hid (ks.out.keep hbm)
            replace kr := Lib.hid (kr.out.keep hbm)
            have zm : (w5.alloc (.cells #[.int .i64 0, .int .i64 0, .int .i64 0] 35)).heap.size = w5.heap.size + 1 := by simp
            replace HB := Lib.hid (HB.out.trans (hbm.mono HB.out.size))
            have km := Lib.hid (Lok.new w5 35 #[.int .i64 0, .int .i64 0, .int .i64 0])
            clear hbm
            generalize w5.alloc (.cells #[.int .i64 0, .int .i64 0, .int .i64 0] 35) = Vm at *
            clear zm
            generalize w5.heap.size = gm at *
            have r0 := kr.out.cell (i := 0) rfl
            have r1 := kr.out.cell (i := 1) rfl
            have r2 := kr.out.cell (i := 2) rfl
            have fr0 := kr.out.frozen 0
            have fr1 := kr.out.frozen 1
            have fr2 := kr.out.frozen 2
            go_wp2_with fail
            exact bodyPost_ret (v := .tuple #[.agg #[.int .i64 0, .int .i64 0, .int .i64 0], .int .i64 1]) (by simp [results, Try.results15, go_sem, r0, r1, r2]) rfl ⟨rfl, ((HB.out.setCell (by simp <;> omega) _).setCell (by simp <;> omega) _).setCell (by simp <;> omega) _⟩
          | true =>
            obtain ⟨b0, b1', b2', b3⟩ := w_bd hs ha
            simp only [hs, ha, gV_yes, iE_yes] at WT ⊢
            obtain ⟨p1, p2, p3⟩ := s3_iff.1 h1
            obtain ⟨p4, p5, p6⟩ := s3_iff.1 h2
            obtain ⟨p7, p8, p9⟩ := s3_iff.1 h3
            generalize wA x y a1 a2 b1 b2 c1 c2 = k0 at *
            generalize wB x y a1 a2 b1 b2 c1 c2 = k1 at *
            generalize wC x y a1 a2 b1 b2 c1 c2 = k2 at *
            generalize wW a1 a2 b1 b2 c1 c2 = n at *
            have f00 := far_part b0 p1
            have f01 := far_part b1' p4
            have f02 := far_part b2' p7
            have e00 : IntKind.i64.wrap (k0 * qa1) = k0 * qa1 := IntWalk.i64_in _ (by omega)
            have e01 : IntKind.i64.wrap (k1 * qb1) = k1 * qb1 := IntWalk.i64_in _ (by omega)
            have e02 : IntKind.i64.wrap (k2 * qc1) = k2 * qc1 := IntWalk.i64_in _ (by omega)
            have e03 : IntKind.i64.wrap (k0 * qa1 + k1 * qb1) = k0 * qa1 + k1 * qb1 := IntWalk.i64_in _ (by omega)
            have e04 : IntKind.i64.wrap (k0 * qa1 + k1 * qb1 + k2 * qc1) = k0 * qa1 + k1 * qb1 + k2 * qc1 := IntWalk.i64_in _ (by omega)
            have G0 := Lib.hid (fun W => rdown_any (k0 * qa1 + k1 * qb1 + k2 * qc1) n b3.1 (by unfold In64; omega) (by unfold In64; omega) W)
            clear f00 f01 f02
            rw [show (k0 * qa1 + k1 * qb1 + k2 * qc1) / n = lf k0 k1 k2 n qa1 qb1 qc1 from rfl] at G0
            generalize lf k0 k1 k2 n qa1 qb1 qc1 = v0 at *
            have f10 := far_part b0 p2
            have f11 := far_part b1' p5
            have f12 := far_part b2' p8
            have e10 : IntKind.i64.wrap (k0 * qa2) = k0 * qa2 := IntWalk.i64_in _ (by omega)
            have e11 : IntKind.i64.wrap (k1 * qb2) = k1 * qb2 := IntWalk.i64_in _ (by omega)
            have e12 : IntKind.i64.wrap (k2 * qc2) = k2 * qc2 := IntWalk.i64_in _ (by omega)
            have e13 : IntKind.i64.wrap (k0 * qa2 + k1 * qb2) = k0 * qa2 + k1 * qb2 := IntWalk.i64_in _ (by omega)
            have e14 : IntKind.i64.wrap (k0 * qa2 + k1 * qb2 + k2 * qc2) = k0 * qa2 + k1 * qb2 + k2 * qc2 := IntWalk.i64_in _ (by omega)
            have G1 := Lib.hid (fun W => rdown_any (k0 * qa2 + k1 * qb2 + k2 * qc2) n b3.1 (by unfold In64; omega) (by unfold In64; omega) W)
            clear f10 f11 f12
            rw [show (k0 * qa2 + k1 * qb2 + k2 * qc2) / n = lf k0 k1 k2 n qa2 qb2 qc2 from rfl] at G1
            generalize lf k0 k1 k2 n qa2 qb2 qc2 = v1 at *
            have f20 := far_part b0 p3
            have f21 := far_part b1' p6
            have f22 := far_part b2' p9
            have e20 : IntKind.i64.wrap (k0 * qa3) = k0 * qa3 := IntWalk.i64_in _ (by omega)
            have e21 : IntKind.i64.wrap (k1 * qb3) = k1 * qb3 := IntWalk.i64_in _ (by omega)
            have e22 : IntKind.i64.wrap (k2 * qc3) = k2 * qc3 := IntWalk.i64_in _ (by omega)
            have e23 : IntKind.i64.wrap (k0 * qa3 + k1 * qb3) = k0 * qa3 + k1 * qb3 := IntWalk.i64_in _ (by omega)
            have e24 : IntKind.i64.wrap (k0 * qa3 + k1 * qb3 + k2 * qc3) = k0 * qa3 + k1 * qb3 + k2 * qc3 := IntWalk.i64_in _ (by omega)
            have G2 := Lib.hid (fun W => rdown_any (k0 * qa3 + k1 * qb3 + k2 * qc3) n b3.1 (by unfold In64; omega) (by unfold In64; omega) W)
            clear f20 f21 f22
            rw [show (k0 * qa3 + k1 * qb3 + k2 * qc3) / n = lf k0 k1 k2 n qa3 qb3 qc3 from rfl] at G2
            generalize lf k0 k1 k2 n qa3 qb3 qc3 = v2 at *
            clear hs ha h1 h2 h3 p1 p2 p3 p4 p5 p6 p7 p8 p9 b0 b1' b2' b3
            go_enter Try.func15, Try.ntmps15
            go_upto_region 1 with fail
            have hbp := below_new1 w (.cells #[.int .i64 x, .int .i64 y] 23)
            have zp : (w.alloc (.cells #[.int .i64 x, .int .i64 y] 23)).heap.size = w.heap.size + 1 := by simp
            have HB := Lib.hid hbp
            have kp := Lib.hid (Lok.new w 23 #[.int .i64 x, .int .i64 y])
            clear hbp
            generalize w.alloc (.cells #[.int .i64 x, .int .i64 y] 23) = Vp at *
            have hbt := below_new1 Vp (.cells #[.int .i64 a1, .int .i64 a2, .int .i64 b1, .int .i64 b2, .int .i64 c1, .int .i64 c2] 24)
            replace kp := Lib.hid (kp.out.keep hbt)
            have zt : (Vp.alloc (.cells #[.int .i64 a1, .int .i64 a2, .int .i64 b1, .int .i64 b2, .int .i64 c1, .int .i64 c2] 24)).heap.size = Vp.heap.size + 1 := by simp
            replace HB := Lib.hid (HB.out.trans (hbt.mono HB.out.size))
            have kt := Lib.hid (Lok.new Vp 24 #[.int .i64 a1, .int .i64 a2, .int .i64 b1, .int .i64 b2, .int .i64 c1, .int .i64 c2])
            clear hbt
            generalize Vp.alloc (.cells #[.int .i64 a1, .int .i64 a2, .int .i64 b1, .int .i64 b2, .int .i64 c1, .int .i64 c2] 24) = Vt at *
            rw [zp] at kt zt
            have hbs := below_new1 Vt (.cells #[.int .i64 qa1, .int .i64 qa2, .int .i64 qa3, .int .i64 qb1, .int .i64 qb2, .int .i64 qb3, .int .i64 qc1, .int .i64 qc2, .int .i64 qc3] 27)
            replace kp := Lib.hid (kp.out.keep hbs)
            replace kt := Lib.hid (kt.out.keep hbs)
            have zs : (Vt.alloc (.cells #[.int .i64 qa1, .int .i64 qa2, .int .i64 qa3, .int .i64 qb1, .int .i64 qb2, .int .i64 qb3, .int .i64 qc1, .int .i64 qc2, .int .i64 qc3] 27)).heap.size = Vt.heap.size + 1 := by simp
            replace HB := Lib.hid (HB.out.trans (hbs.mono HB.out.size))
            have ks := Lib.hid (Lok.new Vt 27 #[.int .i64 qa1, .int .i64 qa2, .int .i64 qa3, .int .i64 qb1, .int .i64 qb2, .int .i64 qb3, .int .i64 qc1, .int .i64 qc2, .int .i64 qc3])
            clear hbs
            generalize Vt.alloc (.cells #[.int .i64 qa1, .int .i64 qa2, .int .i64 qa3, .int .i64 qb1, .int .i64 qb2, .int .i64 qb3, .int .i64 qc1, .int .i64 qc2, .int .i64 qc3] 27) = Vs at *
            rw [zt] at ks zs
            have hbr := below_new1 Vs (.cells #[.int .i64 0, .int .i64 0, .int .i64 0] 26)
            replace kp := Lib.hid (kp.out.keep hbr)
            replace kt := Lib.hid (kt.out.keep hbr)
            replace ks := Lib.hid (ks.out.keep hbr)
            have zr : (Vs.alloc (.cells #[.int .i64 0, .int .i64 0, .int .i64 0] 26)).heap.size = Vs.heap.size + 1 := by simp
            replace HB := Lib.hid (HB.out.trans (hbr.mono HB.out.size))
            have kr := Lib.hid (Lok.new Vs 26 #[.int .i64 0, .int .i64 0, .int .i64 0])
            clear hbr
            generalize Vs.alloc (.cells #[.int .i64 0, .int .i64 0, .int .i64 0] 26) = Vr at *
            rw [zs] at kr
            clear zp zt zs zr
            have p0 := kp.out.cell (i := 0) rfl
            have p1 := kp.out.cell (i := 1) rfl
            go_wp2_with fail
            clear p0 p1
            (((with_reducible refine (S0.out _).mono ?_); rintro e w1 ⟨rfl, hb1⟩); replace HB := Lib.hid (HB.out.trans (hb1.mono HB.out.size)); replace kp := Lib.hid (kp.out.keep hb1); replace kt := Lib.hid (kt.out.keep hb1); replace ks := Lib.hid (ks.out.keep hb1); replace kr := Lib.hid (kr.out.keep hb1); clear hb1)
            have s0 := ks.out.cell (i := 0) rfl
            have s1 := ks.out.cell (i := 1) rfl
            have s2 := ks.out.cell (i := 2) rfl
            have s3 := ks.out.cell (i := 3) rfl
            have s4 := ks.out.cell (i := 4) rfl
            have s5 := ks.out.cell (i := 5) rfl
            have s6 := ks.out.cell (i := 6) rfl
            have s7 := ks.out.cell (i := 7) rfl
            have s8 := ks.out.cell (i := 8) rfl
            go_wp2_with fail
            clear s0 s1 s2 s3 s4 s5 s6 s7 s8
            (((with_reducible refine (S1.out _).mono ?_); rintro e w2 ⟨rfl, hb2⟩); replace HB := Lib.hid (HB.out.trans (hb2.mono HB.out.size)); replace kp := Lib.hid (kp.out.keep hb2); replace kt := Lib.hid (kt.out.keep hb2); replace ks := Lib.hid (ks.out.keep hb2); replace kr := Lib.hid (kr.out.keep hb2); clear hb2)
            have s0 := ks.out.cell (i := 0) rfl
            have s1 := ks.out.cell (i := 1) rfl
            have s2 := ks.out.cell (i := 2) rfl
            have s3 := ks.out.cell (i := 3) rfl
            have s4 := ks.out.cell (i := 4) rfl
            have s5 := ks.out.cell (i := 5) rfl
            have s6 := ks.out.cell (i := 6) rfl
            have s7 := ks.out.cell (i := 7) rfl
            have s8 := ks.out.cell (i := 8) rfl
            go_wp2_with fail
            clear s0 s1 s2 s3 s4 s5 s6 s7 s8
            (((with_reducible refine (S2.out _).mono ?_); rintro e w3 ⟨rfl, hb3⟩); replace HB := Lib.hid (HB.out.trans (hb3.mono HB.out.size)); replace kp := Lib.hid (kp.out.keep hb3); replace kt := Lib.hid (kt.out.keep hb3); replace ks := Lib.hid (ks.out.keep hb3); replace kr := Lib.hid (kr.out.keep hb3); clear hb3)
            have s0 := ks.out.cell (i := 0) rfl
            have s1 := ks.out.cell (i := 1) rfl
            have s2 := ks.out.cell (i := 2) rfl
            have s3 := ks.out.cell (i := 3) rfl
            have s4 := ks.out.cell (i := 4) rfl
            have s5 := ks.out.cell (i := 5) rfl
            have s6 := ks.out.cell (i := 6) rfl
            have s7 := ks.out.cell (i := 7) rfl
            have s8 := ks.out.cell (i := 8) rfl
            go_wp2_with fail
            clear s0 s1 s2 s3 s4 s5 s6 s7 s8
            (((with_reducible refine (S3.out _).mono ?_); rintro e w4 ⟨rfl, hb4⟩); replace HB := Lib.hid (HB.out.trans (hb4.mono HB.out.size)); replace kp := Lib.hid (kp.out.keep hb4); replace kt := Lib.hid (kt.out.keep hb4); replace ks := Lib.hid (ks.out.keep hb4); replace kr := Lib.hid (kr.out.keep hb4); clear hb4)
            clear S0 S1 S2 S3
            have p0 := kp.out.cell (i := 0) rfl
            have p1 := kp.out.cell (i := 1) rfl
            have t0 := kt.out.cell (i := 0) rfl
            have t1 := kt.out.cell (i := 1) rfl
            have t2 := kt.out.cell (i := 2) rfl
            have t3 := kt.out.cell (i := 3) rfl
            have t4 := kt.out.cell (i := 4) rfl
            have t5 := kt.out.cell (i := 5) rfl
            go_wp2_with fail
            clear p0 p1 t0 t1 t2 t3 t4 t5
            (((with_reducible refine (WT.out _).mono ?_); rintro e w5 ⟨rfl, hb5⟩); replace HB := Lib.hid (HB.out.trans (hb5.mono HB.out.size)); replace kp := Lib.hid (kp.out.keep hb5); replace kt := Lib.hid (kt.out.keep hb5); replace ks := Lib.hid (ks.out.keep hb5); replace kr := Lib.hid (kr.out.keep hb5); clear hb5)
            go_upto_region 4 with fail
            have hlt := kr.out.lt
            have hbm := below_new1 w5 (.cells #[.int .i64 k0, .int .i64 k1, .int .i64 k2] 35)
            replace kp := Lib.hid (kp.out.keep hbm)
            replace kt := Lib.hid (kt.out.keep hbm)
            replace ks := Lib.hid (ks.out.keep hbm)
            replace kr := Lib.hid (kr.out.keep hbm)
            have zm : (w5.alloc (.cells #[.int .i64 k0, .int .i64 k1, .int .i64 k2] 35)).heap.size = w5.heap.size + 1 := by simp
            replace HB := Lib.hid (HB.out.trans (hbm.mono HB.out.size))
            have km := Lib.hid (Lok.new w5 35 #[.int .i64 k0, .int .i64 k1, .int .i64 k2])
            clear hbm
            generalize w5.alloc (.cells #[.int .i64 k0, .int .i64 k1, .int .i64 k2] 35) = Vm at *
            clear zm
            generalize w5.heap.size = gm at *
            go_upto_region 6 with fail
            have lt1 := kr.out.lt
            have lt2 := km.out.lt
            have o67 := kr.out
            have l1 := km.out
            have l3 := ks.out
            have hbound : w.heap.size + 3 ≤ Vm.heap.size := by omega
            refine wp_region_rel (by kernel_rfl) [44, 45, 46, 47, 48, 49, 50, 51, 52, 53, 54, 55, 56, 57, 58, 59, 60, 61, 62, 63, 64, 65, 66, 67, 68, 69, 70, 71, 72, 73, 74, 75, 76, 77, 78, 79, 80, 81, 82, 83, 84, 85, 86, 87, 88, 89, 90, 91, 92, 93, 94, 95, 96, 97, 98, 99, 100, 101, 102, 103, 104, 105, 106, 107, 108, 109, 110, 7] ?Fr1 ?hFr1
              (fun L u W => Below (w.heap.size + 3) Vm W ∧ (L 0 = true → u 44 = .pointer (some ⟨gm, 0, none⟩)) ∧ (L 1 = true → u 45 = .int .i64 k0) ∧ (L 2 = true → u 46 = .pointer (some ⟨w.heap.size + 2, 0, none⟩)) ∧ (L 3 = true → u 47 = .pointer (some ⟨w.heap.size + 2, 0, none⟩)) ∧ (L 4 = true → u 48 = .int .i64 qa1) ∧ (L 5 = true → u 49 = .int .i64 (k0 * qa1)) ∧ (L 6 = true → u 50 = .pointer (some ⟨gm, 1, none⟩)) ∧ (L 7 = true → u 51 = .int .i64 k1) ∧ (L 8 = true → u 52 = .pointer (some ⟨w.heap.size + 2, 3, none⟩)) ∧ (L 9 = true → u 53 = .pointer (some ⟨w.heap.size + 2, 3, none⟩)) ∧ (L 10 = true → u 54 = .int .i64 qb1) ∧ (L 11 = true → u 55 = .int .i64 (k1 * qb1)) ∧ (L 12 = true → u 56 = .int .i64 (k0 * qa1 + k1 * qb1)) ∧ (L 13 = true → u 57 = .pointer (some ⟨gm, 2, none⟩)) ∧ (L 14 = true → u 58 = .int .i64 k2) ∧ (L 15 = true → u 59 = .pointer (some ⟨w.heap.size + 2, 6, none⟩)) ∧ (L 16 = true → u 60 = .pointer (some ⟨w.heap.size + 2, 6, none⟩)) ∧ (L 17 = true → u 61 = .int .i64 qc1) ∧ (L 18 = true → u 62 = .int .i64 (k2 * qc1)) ∧ (L 19 = true → u 63 = .int .i64 (k0 * qa1 + k1 * qb1 + k2 * qc1)) ∧ (L 20 = true → u 64 = .int .i64 n) ∧ (L 21 = true → u 65 = .int .i64 v0) ∧ (L 22 = true → u 66 = .pointer (some ⟨gm, 0, none⟩)) ∧ (L 23 = true → u 67 = .int .i64 k0) ∧ (L 24 = true → u 68 = .pointer (some ⟨w.heap.size + 2, 0, none⟩)) ∧ (L 25 = true → u 69 = .pointer (some ⟨w.heap.size + 2, 1, none⟩)) ∧ (L 26 = true → u 70 = .int .i64 qa2) ∧ (L 27 = true → u 71 = .int .i64 (k0 * qa2)) ∧ (L 28 = true → u 72 = .pointer (some ⟨gm, 1, none⟩)) ∧ (L 29 = true → u 73 = .int .i64 k1) ∧ (L 30 = true → u 74 = .pointer (some ⟨w.heap.size + 2, 3, none⟩)) ∧ (L 31 = true → u 75 = .pointer (some ⟨w.heap.size + 2, 4, none⟩)) ∧ (L 32 = true → u 76 = .int .i64 qb2) ∧ (L 33 = true → u 77 = .int .i64 (k1 * qb2)) ∧ (L 34 = true → u 78 = .int .i64 (k0 * qa2 + k1 * qb2)) ∧ (L 35 = true → u 79 = .pointer (some ⟨gm, 2, none⟩)) ∧ (L 36 = true → u 80 = .int .i64 k2) ∧ (L 37 = true → u 81 = .pointer (some ⟨w.heap.size + 2, 6, none⟩)) ∧ (L 38 = true → u 82 = .pointer (some ⟨w.heap.size + 2, 7, none⟩)) ∧ (L 39 = true → u 83 = .int .i64 qc2) ∧ (L 40 = true → u 84 = .int .i64 (k2 * qc2)) ∧ (L 41 = true → u 85 = .int .i64 (k0 * qa2 + k1 * qb2 + k2 * qc2)) ∧ (L 42 = true → u 86 = .int .i64 n) ∧ (L 43 = true → u 87 = .int .i64 v1) ∧ (L 44 = true → u 88 = .pointer (some ⟨gm, 0, none⟩)) ∧ (L 45 = true → u 89 = .int .i64 k0) ∧ (L 46 = true → u 90 = .pointer (some ⟨w.heap.size + 2, 0, none⟩)) ∧ (L 47 = true → u 91 = .pointer (some ⟨w.heap.size + 2, 2, none⟩)) ∧ (L 48 = true → u 92 = .int .i64 qa3) ∧ (L 49 = true → u 93 = .int .i64 (k0 * qa3)) ∧ (L 50 = true → u 94 = .pointer (some ⟨gm, 1, none⟩)) ∧ (L 51 = true → u 95 = .int .i64 k1) ∧ (L 52 = true → u 96 = .pointer (some ⟨w.heap.size + 2, 3, none⟩)) ∧ (L 53 = true → u 97 = .pointer (some ⟨w.heap.size + 2, 5, none⟩)) ∧ (L 54 = true → u 98 = .int .i64 qb3) ∧ (L 55 = true → u 99 = .int .i64 (k1 * qb3)) ∧ (L 56 = true → u 100 = .int .i64 (k0 * qa3 + k1 * qb3)) ∧ (L 57 = true → u 101 = .pointer (some ⟨gm, 2, none⟩)) ∧ (L 58 = true → u 102 = .int .i64 k2) ∧ (L 59 = true → u 103 = .pointer (some ⟨w.heap.size + 2, 6, none⟩)) ∧ (L 60 = true → u 104 = .pointer (some ⟨w.heap.size + 2, 8, none⟩)) ∧ (L 61 = true → u 105 = .int .i64 qc3) ∧ (L 62 = true → u 106 = .int .i64 (k2 * qc3)) ∧ (L 63 = true → u 107 = .int .i64 (k0 * qa3 + k1 * qb3 + k2 * qc3)) ∧ (L 64 = true → u 108 = .int .i64 n) ∧ (L 65 = true → u 109 = .int .i64 v2) ∧ (L 66 = true → u 110 = .agg #[.int .i64 v0, .int .i64 v1, .int .i64 v2]) ∧ (L 68 = true → u 7 = .int .i64 0) ∧ (L 67 = false → Lok W (w.heap.size + 3) 26 #[.int .i64 0, .int .i64 0, .int .i64 0]) ∧ (L 67 = true → Lok W (w.heap.size + 3) 26 #[.int .i64 v0, .int .i64 v1, .int .i64 v2]) ∧ Lok W (gm) 35 #[.int .i64 k0, .int .i64 k1, .int .i64 k2] ∧ Lok W (w.heap.size + 2) 27 #[.int .i64 qa1, .int .i64 qa2, .int .i64 qa3, .int .i64 qb1, .int .i64 qb2, .int .i64 qb3, .int .i64 qc1, .int .i64 qc2, .int .i64 qc3]) (by kernel_rfl) (by kernel_rfl) 69 rfl ?h0r1 ?stepr1 ?finr1
            case hFr1 => intro u; simp only [putAll, Act.put, List.setIfInBounds_toArray, List.set]; exact rfl
            case h0r1 => intro L u hL; exact ⟨(Below.refl _ _).drew, (fun h => by simp [hL] at h), (fun h => by simp [hL] at h), (fun h => by simp [hL] at h), (fun h => by simp [hL] at h), (fun h => by simp [hL] at h), (fun h => by simp [hL] at h), (fun h => by simp [hL] at h), (fun h => by simp [hL] at h), (fun h => by simp [hL] at h), (fun h => by simp [hL] at h), (fun h => by simp [hL] at h), (fun h => by simp [hL] at h), (fun h => by simp [hL] at h), (fun h => by simp [hL] at h), (fun h => by simp [hL] at h), (fun h => by simp [hL] at h), (fun h => by simp [hL] at h), (fun h => by simp [hL] at h), (fun h => by simp [hL] at h), (fun h => by simp [hL] at h), (fun h => by simp [hL] at h), (fun h => by simp [hL] at h), (fun h => by simp [hL] at h), (fun h => by simp [hL] at h), (fun h => by simp [hL] at h), (fun h => by simp [hL] at h), (fun h => by simp [hL] at h), (fun h => by simp [hL] at h), (fun h => by simp [hL] at h), (fun h => by simp [hL] at h), (fun h => by simp [hL] at h), (fun h => by simp [hL] at h), (fun h => by simp [hL] at h), (fun h => by simp [hL] at h), (fun h => by simp [hL] at h), (fun h => by simp [hL] at h), (fun h => by simp [hL] at h), (fun h => by simp [hL] at h), (fun h => by simp [hL] at h), (fun h => by simp [hL] at h), (fun h => by simp [hL] at h), (fun h => by simp [hL] at h), (fun h => by simp [hL] at h), (fun h => by simp [hL] at h), (fun h => by simp [hL] at h), (fun h => by simp [hL] at h), (fun h => by simp [hL] at h), (fun h => by simp [hL] at h), (fun h => by simp [hL] at h), (fun h => by simp [hL] at h), (fun h => by simp [hL] at h), (fun h => by simp [hL] at h), (fun h => by simp [hL] at h), (fun h => by simp [hL] at h), (fun h => by simp [hL] at h), (fun h => by simp [hL] at h), (fun h => by simp [hL] at h), (fun h => by simp [hL] at h), (fun h => by simp [hL] at h), (fun h => by simp [hL] at h), (fun h => by simp [hL] at h), (fun h => by simp [hL] at h), (fun h => by simp [hL] at h), (fun h => by simp [hL] at h), (fun h => by simp [hL] at h), (fun h => by simp [hL] at h), (fun h => by simp [hL] at h), (fun h => by simp [hL] at h), (fun _ => by assumption), (fun h => by simp [hL] at h), (by first | assumption | (apply Lok.drew; assumption)), (by first | assumption | (apply Lok.drew; assumption))⟩
            case stepr1 =>
              refine ops_all (ops_cons ?s0r1 (ops_cons ?s1r1 (ops_cons ?s2r1 (ops_cons ?s3r1 (ops_cons ?s4r1 (ops_cons ?s5r1 (ops_cons ?s6r1 (ops_cons ?s7r1 (ops_cons ?s8r1 (ops_cons ?s9r1 (ops_cons ?s10r1 (ops_cons ?s11r1 (ops_cons ?s12r1 (ops_cons ?s13r1 (ops_cons ?s14r1 (ops_cons ?s15r1 (ops_cons ?s16r1 (ops_cons ?s17r1 (ops_cons ?s18r1 (ops_cons ?s19r1 (ops_cons ?s20r1 (ops_cons ?s21r1 (ops_cons ?s22r1 (ops_cons ?s23r1 (ops_cons ?s24r1 (ops_cons ?s25r1 (ops_cons ?s26r1 (ops_cons ?s27r1 (ops_cons ?s28r1 (ops_cons ?s29r1 (ops_cons ?s30r1 (ops_cons ?s31r1 (ops_cons ?s32r1 (ops_cons ?s33r1 (ops_cons ?s34r1 (ops_cons ?s35r1 (ops_cons ?s36r1 (ops_cons ?s37r1 (ops_cons ?s38r1 (ops_cons ?s39r1 (ops_cons ?s40r1 (ops_cons ?s41r1 (ops_cons ?s42r1 (ops_cons ?s43r1 (ops_cons ?s44r1 (ops_cons ?s45r1 (ops_cons ?s46r1 (ops_cons ?s47r1 (ops_cons ?s48r1 (ops_cons ?s49r1 (ops_cons ?s50r1 (ops_cons ?s51r1 (ops_cons ?s52r1 (ops_cons ?s53r1 (ops_cons ?s54r1 (ops_cons ?s55r1 (ops_cons ?s56r1 (ops_cons ?s57r1 (ops_cons ?s58r1 (ops_cons ?s59r1 (ops_cons ?s60r1 (ops_cons ?s61r1 (ops_cons ?s62r1 (ops_cons ?s63r1 (ops_cons ?s64r1 (ops_cons ?s65r1 (ops_cons ?s66r1 (ops_cons ?s67r1 (ops_cons ?s68r1 (ops_nil))))))))))))))))))))))))))))))))))))))))))))))))))))))))))))))))))))))
              case s0r1 =>
                rintro L u W ⟨hB, c0, c1, c2, c3, c4, c5, c6, c7, c8, c9, c10, c11, c12, c13, c14, c15, c16, c17, c18, c19, c20, c21, c22, c23, c24, c25, c26, c27, c28, c29, c30, c31, c32, c33, c34, c35, c36, c37, c38, c39, c40, c41, c42, c43, c44, c45, c46, c47, c48, c49, c50, c51, c52, c53, c54, c55, c56, c57, c58, c59, c60, c61, c62, c63, c64, c65, c66, c68, o67, wn67, lk1, lk3⟩ hf hd K hK
                dsimp only at hK
                clear hd
                go_simp
                refine hK _ _ ?_ (fun h => by cases h)
                intro s hs
                cases hs
                exact ⟨hB, (fun _ => rfl), c1, c2, c3, c4, c5, c6, c7, c8, c9, c10, c11, c12, c13, c14, c15, c16, c17, c18, c19, c20, c21, c22, c23, c24, c25, c26, c27, c28, c29, c30, c31, c32, c33, c34, c35, c36, c37, c38, c39, c40, c41, c42, c43, c44, c45, c46, c47, c48, c49, c50, c51, c52, c53, c54, c55, c56, c57, c58, c59, c60, c61, c62, c63, c64, c65, c66, c68, o67, wn67, lk1, lk3⟩
              case s1r1 =>
                rintro L u W ⟨hB, c0, c1, c2, c3, c4, c5, c6, c7, c8, c9, c10, c11, c12, c13, c14, c15, c16, c17, c18, c19, c20, c21, c22, c23, c24, c25, c26, c27, c28, c29, c30, c31, c32, c33, c34, c35, c36, c37, c38, c39, c40, c41, c42, c43, c44, c45, c46, c47, c48, c49, c50, c51, c52, c53, c54, c55, c56, c57, c58, c59, c60, c61, c62, c63, c64, c65, c66, c68, o67, wn67, lk1, lk3⟩ hf hd K hK
                dsimp only at hK
                have hd0 : L 0 = true := (by first | (refine hd ⟨0, .data⟩ ?_ rfl; simp; done) | (refine hd ⟨0, .guard⟩ ?_ rfl; simp; done) | (refine hd ⟨0, .phase⟩ ?_ rfl; simp; done) | (refine hd ⟨0, .chain⟩ ?_ rfl; simp; done))
                have e0 := c0 hd0
                rw [e0] at hK
                have t0 := lk1.cell (i := 0) rfl
                clear hd0
                clear hd
                go_simp
                refine hK _ _ ?_ (fun h => by cases h)
                intro s hs
                cases hs
                exact ⟨hB, c0, (fun _ => rfl), c2, c3, c4, c5, c6, c7, c8, c9, c10, c11, c12, c13, c14, c15, c16, c17, c18, c19, c20, c21, c22, c23, c24, c25, c26, c27, c28, c29, c30, c31, c32, c33, c34, c35, c36, c37, c38, c39, c40, c41, c42, c43, c44, c45, c46, c47, c48, c49, c50, c51, c52, c53, c54, c55, c56, c57, c58, c59, c60, c61, c62, c63, c64, c65, c66, c68, o67, wn67, lk1, lk3⟩
              case s2r1 =>
                rintro L u W ⟨hB, c0, c1, c2, c3, c4, c5, c6, c7, c8, c9, c10, c11, c12, c13, c14, c15, c16, c17, c18, c19, c20, c21, c22, c23, c24, c25, c26, c27, c28, c29, c30, c31, c32, c33, c34, c35, c36, c37, c38, c39, c40, c41, c42, c43, c44, c45, c46, c47, c48, c49, c50, c51, c52, c53, c54, c55, c56, c57, c58, c59, c60, c61, c62, c63, c64, c65, c66, c68, o67, wn67, lk1, lk3⟩ hf hd K hK
                dsimp only at hK
                clear hd
                go_simp
                refine hK _ _ ?_ (fun h => by cases h)
                intro s hs
                cases hs
                exact ⟨hB, c0, c1, (fun _ => rfl), c3, c4, c5, c6, c7, c8, c9, c10, c11, c12, c13, c14, c15, c16, c17, c18, c19, c20, c21, c22, c23, c24, c25, c26, c27, c28, c29, c30, c31, c32, c33, c34, c35, c36, c37, c38, c39, c40, c41, c42, c43, c44, c45, c46, c47, c48, c49, c50, c51, c52, c53, c54, c55, c56, c57, c58, c59, c60, c61, c62, c63, c64, c65, c66, c68, o67, wn67, lk1, lk3⟩
              case s3r1 =>
                rintro L u W ⟨hB, c0, c1, c2, c3, c4, c5, c6, c7, c8, c9, c10, c11, c12, c13, c14, c15, c16, c17, c18, c19, c20, c21, c22, c23, c24, c25, c26, c27, c28, c29, c30, c31, c32, c33, c34, c35, c36, c37, c38, c39, c40, c41, c42, c43, c44, c45, c46, c47, c48, c49, c50, c51, c52, c53, c54, c55, c56, c57, c58, c59, c60, c61, c62, c63, c64, c65, c66, c68, o67, wn67, lk1, lk3⟩ hf hd K hK
                dsimp only at hK
                have hd2 : L 2 = true := (by first | (refine hd ⟨2, .data⟩ ?_ rfl; simp; done) | (refine hd ⟨2, .guard⟩ ?_ rfl; simp; done) | (refine hd ⟨2, .phase⟩ ?_ rfl; simp; done) | (refine hd ⟨2, .chain⟩ ?_ rfl; simp; done))
                have e2 := c2 hd2
                rw [e2] at hK
                clear hd2
                clear hd
                go_simp
                refine hK _ _ ?_ (fun h => by cases h)
                intro s hs
                cases hs
                exact ⟨hB, c0, c1, c2, (fun _ => rfl), c4, c5, c6, c7, c8, c9, c10, c11, c12, c13, c14, c15, c16, c17, c18, c19, c20, c21, c22, c23, c24, c25, c26, c27, c28, c29, c30, c31, c32, c33, c34, c35, c36, c37, c38, c39, c40, c41, c42, c43, c44, c45, c46, c47, c48, c49, c50, c51, c52, c53, c54, c55, c56, c57, c58, c59, c60, c61, c62, c63, c64, c65, c66, c68, o67, wn67, lk1, lk3⟩
              case s4r1 =>
                rintro L u W ⟨hB, c0, c1, c2, c3, c4, c5, c6, c7, c8, c9, c10, c11, c12, c13, c14, c15, c16, c17, c18, c19, c20, c21, c22, c23, c24, c25, c26, c27, c28, c29, c30, c31, c32, c33, c34, c35, c36, c37, c38, c39, c40, c41, c42, c43, c44, c45, c46, c47, c48, c49, c50, c51, c52, c53, c54, c55, c56, c57, c58, c59, c60, c61, c62, c63, c64, c65, c66, c68, o67, wn67, lk1, lk3⟩ hf hd K hK
                dsimp only at hK
                have hd3 : L 3 = true := (by first | (refine hd ⟨3, .data⟩ ?_ rfl; simp; done) | (refine hd ⟨3, .guard⟩ ?_ rfl; simp; done) | (refine hd ⟨3, .phase⟩ ?_ rfl; simp; done) | (refine hd ⟨3, .chain⟩ ?_ rfl; simp; done))
                have e3 := c3 hd3
                rw [e3] at hK
                have t0 := lk3.cell (i := 0) rfl
                clear hd3
                clear hd
                go_simp
                refine hK _ _ ?_ (fun h => by cases h)
                intro s hs
                cases hs
                exact ⟨hB, c0, c1, c2, c3, (fun _ => rfl), c5, c6, c7, c8, c9, c10, c11, c12, c13, c14, c15, c16, c17, c18, c19, c20, c21, c22, c23, c24, c25, c26, c27, c28, c29, c30, c31, c32, c33, c34, c35, c36, c37, c38, c39, c40, c41, c42, c43, c44, c45, c46, c47, c48, c49, c50, c51, c52, c53, c54, c55, c56, c57, c58, c59, c60, c61, c62, c63, c64, c65, c66, c68, o67, wn67, lk1, lk3⟩
              case s5r1 =>
                rintro L u W ⟨hB, c0, c1, c2, c3, c4, c5, c6, c7, c8, c9, c10, c11, c12, c13, c14, c15, c16, c17, c18, c19, c20, c21, c22, c23, c24, c25, c26, c27, c28, c29, c30, c31, c32, c33, c34, c35, c36, c37, c38, c39, c40, c41, c42, c43, c44, c45, c46, c47, c48, c49, c50, c51, c52, c53, c54, c55, c56, c57, c58, c59, c60, c61, c62, c63, c64, c65, c66, c68, o67, wn67, lk1, lk3⟩ hf hd K hK
                dsimp only at hK
                have hd1 : L 1 = true := (by first | (refine hd ⟨1, .data⟩ ?_ rfl; simp; done) | (refine hd ⟨1, .guard⟩ ?_ rfl; simp; done) | (refine hd ⟨1, .phase⟩ ?_ rfl; simp; done) | (refine hd ⟨1, .chain⟩ ?_ rfl; simp; done))
                have hd4 : L 4 = true := (by first | (refine hd ⟨4, .data⟩ ?_ rfl; simp; done) | (refine hd ⟨4, .guard⟩ ?_ rfl; simp; done) | (refine hd ⟨4, .phase⟩ ?_ rfl; simp; done) | (refine hd ⟨4, .chain⟩ ?_ rfl; simp; done))
                have e1 := c1 hd1
                rw [e1] at hK
                have e4 := c4 hd4
                rw [e4] at hK
                clear hd1
                clear hd4
                clear hd
                go_simp
                refine hK _ _ ?_ (fun h => by cases h)
                intro s hs
                cases hs
                exact ⟨hB, c0, c1, c2, c3, c4, (fun _ => rfl), c6, c7, c8, c9, c10, c11, c12, c13, c14, c15, c16, c17, c18, c19, c20, c21, c22, c23, c24, c25, c26, c27, c28, c29, c30, c31, c32, c33, c34, c35, c36, c37, c38, c39, c40, c41, c42, c43, c44, c45, c46, c47, c48, c49, c50, c51, c52, c53, c54, c55, c56, c57, c58, c59, c60, c61, c62, c63, c64, c65, c66, c68, o67, wn67, lk1, lk3⟩
              case s6r1 =>
                rintro L u W ⟨hB, c0, c1, c2, c3, c4, c5, c6, c7, c8, c9, c10, c11, c12, c13, c14, c15, c16, c17, c18, c19, c20, c21, c22, c23, c24, c25, c26, c27, c28, c29, c30, c31, c32, c33, c34, c35, c36, c37, c38, c39, c40, c41, c42, c43, c44, c45, c46, c47, c48, c49, c50, c51, c52, c53, c54, c55, c56, c57, c58, c59, c60, c61, c62, c63, c64, c65, c66, c68, o67, wn67, lk1, lk3⟩ hf hd K hK
                dsimp only at hK
                clear hd
                go_simp
                refine hK _ _ ?_ (fun h => by cases h)
                intro s hs
                cases hs
                exact ⟨hB, c0, c1, c2, c3, c4, c5, (fun _ => rfl), c7, c8, c9, c10, c11, c12, c13, c14, c15, c16, c17, c18, c19, c20, c21, c22, c23, c24, c25, c26, c27, c28, c29, c30, c31, c32, c33, c34, c35, c36, c37, c38, c39, c40, c41, c42, c43, c44, c45, c46, c47, c48, c49, c50, c51, c52, c53, c54, c55, c56, c57, c58, c59, c60, c61, c62, c63, c64, c65, c66, c68, o67, wn67, lk1, lk3⟩
              case s7r1 =>
                rintro L u W ⟨hB, c0, c1, c2, c3, c4, c5, c6, c7, c8, c9, c10, c11, c12, c13, c14, c15, c16, c17, c18, c19, c20, c21, c22, c23, c24, c25, c26, c27, c28, c29, c30, c31, c32, c33, c34, c35, c36, c37, c38, c39, c40, c41, c42, c43, c44, c45, c46, c47, c48, c49, c50, c51, c52, c53, c54, c55, c56, c57, c58, c59, c60, c61, c62, c63, c64, c65, c66, c68, o67, wn67, lk1, lk3⟩ hf hd K hK
                dsimp only at hK
                have hd6 : L 6 = true := (by first | (refine hd ⟨6, .data⟩ ?_ rfl; simp; done) | (refine hd ⟨6, .guard⟩ ?_ rfl; simp; done) | (refine hd ⟨6, .phase⟩ ?_ rfl; simp; done) | (refine hd ⟨6, .chain⟩ ?_ rfl; simp; done))
                have e6 := c6 hd6
                rw [e6] at hK
                have t0 := lk1.cell (i := 1) rfl
                clear hd6
                clear hd
                go_simp
                refine hK _ _ ?_ (fun h => by cases h)
                intro s hs
                cases hs
                exact ⟨hB, c0, c1, c2, c3, c4, c5, c6, (fun _ => rfl), c8, c9, c10, c11, c12, c13, c14, c15, c16, c17, c18, c19, c20, c21, c22, c23, c24, c25, c26, c27, c28, c29, c30, c31, c32, c33, c34, c35, c36, c37, c38, c39, c40, c41, c42, c43, c44, c45, c46, c47, c48, c49, c50, c51, c52, c53, c54, c55, c56, c57, c58, c59, c60, c61, c62, c63, c64, c65, c66, c68, o67, wn67, lk1, lk3⟩
              case s8r1 =>
                rintro L u W ⟨hB, c0, c1, c2, c3, c4, c5, c6, c7, c8, c9, c10, c11, c12, c13, c14, c15, c16, c17, c18, c19, c20, c21, c22, c23, c24, c25, c26, c27, c28, c29, c30, c31, c32, c33, c34, c35, c36, c37, c38, c39, c40, c41, c42, c43, c44, c45, c46, c47, c48, c49, c50, c51, c52, c53, c54, c55, c56, c57, c58, c59, c60, c61, c62, c63, c64, c65, c66, c68, o67, wn67, lk1, lk3⟩ hf hd K hK
                dsimp only at hK
                clear hd
                go_simp
                refine hK _ _ ?_ (fun h => by cases h)
                intro s hs
                cases hs
                exact ⟨hB, c0, c1, c2, c3, c4, c5, c6, c7, (fun _ => rfl), c9, c10, c11, c12, c13, c14, c15, c16, c17, c18, c19, c20, c21, c22, c23, c24, c25, c26, c27, c28, c29, c30, c31, c32, c33, c34, c35, c36, c37, c38, c39, c40, c41, c42, c43, c44, c45, c46, c47, c48, c49, c50, c51, c52, c53, c54, c55, c56, c57, c58, c59, c60, c61, c62, c63, c64, c65, c66, c68, o67, wn67, lk1, lk3⟩
              case s9r1 =>
                rintro L u W ⟨hB, c0, c1, c2, c3, c4, c5, c6, c7, c8, c9, c10, c11, c12, c13, c14, c15, c16, c17, c18, c19, c20, c21, c22, c23, c24, c25, c26, c27, c28, c29, c30, c31, c32, c33, c34, c35, c36, c37, c38, c39, c40, c41, c42, c43, c44, c45, c46, c47, c48, c49, c50, c51, c52, c53, c54, c55, c56, c57, c58, c59, c60, c61, c62, c63, c64, c65, c66, c68, o67, wn67, lk1, lk3⟩ hf hd K hK
                dsimp only at hK
                have hd8 : L 8 = true := (by first | (refine hd ⟨8, .data⟩ ?_ rfl; simp; done) | (refine hd ⟨8, .guard⟩ ?_ rfl; simp; done) | (refine hd ⟨8, .phase⟩ ?_ rfl; simp; done) | (refine hd ⟨8, .chain⟩ ?_ rfl; simp; done))
                have e8 := c8 hd8
                rw [e8] at hK
                clear hd8
                clear hd
                go_simp
                refine hK _ _ ?_ (fun h => by cases h)
                intro s hs
                cases hs
                exact ⟨hB, c0, c1, c2, c3, c4, c5, c6, c7, c8, (fun _ => rfl), c10, c11, c12, c13, c14, c15, c16, c17, c18, c19, c20, c21, c22, c23, c24, c25, c26, c27, c28, c29, c30, c31, c32, c33, c34, c35, c36, c37, c38, c39, c40, c41, c42, c43, c44, c45, c46, c47, c48, c49, c50, c51, c52, c53, c54, c55, c56, c57, c58, c59, c60, c61, c62, c63, c64, c65, c66, c68, o67, wn67, lk1, lk3⟩
              case s10r1 =>
                rintro L u W ⟨hB, c0, c1, c2, c3, c4, c5, c6, c7, c8, c9, c10, c11, c12, c13, c14, c15, c16, c17, c18, c19, c20, c21, c22, c23, c24, c25, c26, c27, c28, c29, c30, c31, c32, c33, c34, c35, c36, c37, c38, c39, c40, c41, c42, c43, c44, c45, c46, c47, c48, c49, c50, c51, c52, c53, c54, c55, c56, c57, c58, c59, c60, c61, c62, c63, c64, c65, c66, c68, o67, wn67, lk1, lk3⟩ hf hd K hK
                dsimp only at hK
                have hd9 : L 9 = true := (by first | (refine hd ⟨9, .data⟩ ?_ rfl; simp; done) | (refine hd ⟨9, .guard⟩ ?_ rfl; simp; done) | (refine hd ⟨9, .phase⟩ ?_ rfl; simp; done) | (refine hd ⟨9, .chain⟩ ?_ rfl; simp; done))
                have e9 := c9 hd9
                rw [e9] at hK
                have t0 := lk3.cell (i := 3) rfl
                clear hd9
                clear hd
                go_simp
                refine hK _ _ ?_ (fun h => by cases h)
                intro s hs
                cases hs
                exact ⟨hB, c0, c1, c2, c3, c4, c5, c6, c7, c8, c9, (fun _ => rfl), c11, c12, c13, c14, c15, c16, c17, c18, c19, c20, c21, c22, c23, c24, c25, c26, c27, c28, c29, c30, c31, c32, c33, c34, c35, c36, c37, c38, c39, c40, c41, c42, c43, c44, c45, c46, c47, c48, c49, c50, c51, c52, c53, c54, c55, c56, c57, c58, c59, c60, c61, c62, c63, c64, c65, c66, c68, o67, wn67, lk1, lk3⟩
              case s11r1 =>
                rintro L u W ⟨hB, c0, c1, c2, c3, c4, c5, c6, c7, c8, c9, c10, c11, c12, c13, c14, c15, c16, c17, c18, c19, c20, c21, c22, c23, c24, c25, c26, c27, c28, c29, c30, c31, c32, c33, c34, c35, c36, c37, c38, c39, c40, c41, c42, c43, c44, c45, c46, c47, c48, c49, c50, c51, c52, c53, c54, c55, c56, c57, c58, c59, c60, c61, c62, c63, c64, c65, c66, c68, o67, wn67, lk1, lk3⟩ hf hd K hK
                dsimp only at hK
                have hd7 : L 7 = true := (by first | (refine hd ⟨7, .data⟩ ?_ rfl; simp; done) | (refine hd ⟨7, .guard⟩ ?_ rfl; simp; done) | (refine hd ⟨7, .phase⟩ ?_ rfl; simp; done) | (refine hd ⟨7, .chain⟩ ?_ rfl; simp; done))
                have hd10 : L 10 = true := (by first | (refine hd ⟨10, .data⟩ ?_ rfl; simp; done) | (refine hd ⟨10, .guard⟩ ?_ rfl; simp; done) | (refine hd ⟨10, .phase⟩ ?_ rfl; simp; done) | (refine hd ⟨10, .chain⟩ ?_ rfl; simp; done))
                have e7 := c7 hd7
                rw [e7] at hK
                have e10 := c10 hd10
                rw [e10] at hK
                clear hd7
                clear hd10
                clear hd
                go_simp
                refine hK _ _ ?_ (fun h => by cases h)
                intro s hs
                cases hs
                exact ⟨hB, c0, c1, c2, c3, c4, c5, c6, c7, c8, c9, c10, (fun _ => rfl), c12, c13, c14, c15, c16, c17, c18, c19, c20, c21, c22, c23, c24, c25, c26, c27, c28, c29, c30, c31, c32, c33, c34, c35, c36, c37, c38, c39, c40, c41, c42, c43, c44, c45, c46, c47, c48, c49, c50, c51, c52, c53, c54, c55, c56, c57, c58, c59, c60, c61, c62, c63, c64, c65, c66, c68, o67, wn67, lk1, lk3⟩
              case s12r1 =>
                rintro L u W ⟨hB, c0, c1, c2, c3, c4, c5, c6, c7, c8, c9, c10, c11, c12, c13, c14, c15, c16, c17, c18, c19, c20, c21, c22, c23, c24, c25, c26, c27, c28, c29, c30, c31, c32, c33, c34, c35, c36, c37, c38, c39, c40, c41, c42, c43, c44, c45, c46, c47, c48, c49, c50, c51, c52, c53, c54, c55, c56, c57, c58, c59, c60, c61, c62, c63, c64, c65, c66, c68, o67, wn67, lk1, lk3⟩ hf hd K hK
                dsimp only at hK
                have hd5 : L 5 = true := (by first | (refine hd ⟨5, .data⟩ ?_ rfl; simp; done) | (refine hd ⟨5, .guard⟩ ?_ rfl; simp; done) | (refine hd ⟨5, .phase⟩ ?_ rfl; simp; done) | (refine hd ⟨5, .chain⟩ ?_ rfl; simp; done))
                have hd11 : L 11 = true := (by first | (refine hd ⟨11, .data⟩ ?_ rfl; simp; done) | (refine hd ⟨11, .guard⟩ ?_ rfl; simp; done) | (refine hd ⟨11, .phase⟩ ?_ rfl; simp; done) | (refine hd ⟨11, .chain⟩ ?_ rfl; simp; done))
                have e5 := c5 hd5
                rw [e5] at hK
                have e11 := c11 hd11
                rw [e11] at hK
                clear hd5
                clear hd11
                clear hd
                go_simp
                refine hK _ _ ?_ (fun h => by cases h)
                intro s hs
                cases hs
                exact ⟨hB, c0, c1, c2, c3, c4, c5, c6, c7, c8, c9, c10, c11, (fun _ => rfl), c13, c14, c15, c16, c17, c18, c19, c20, c21, c22, c23, c24, c25, c26, c27, c28, c29, c30, c31, c32, c33, c34, c35, c36, c37, c38, c39, c40, c41, c42, c43, c44, c45, c46, c47, c48, c49, c50, c51, c52, c53, c54, c55, c56, c57, c58, c59, c60, c61, c62, c63, c64, c65, c66, c68, o67, wn67, lk1, lk3⟩
              case s13r1 =>
                rintro L u W ⟨hB, c0, c1, c2, c3, c4, c5, c6, c7, c8, c9, c10, c11, c12, c13, c14, c15, c16, c17, c18, c19, c20, c21, c22, c23, c24, c25, c26, c27, c28, c29, c30, c31, c32, c33, c34, c35, c36, c37, c38, c39, c40, c41, c42, c43, c44, c45, c46, c47, c48, c49, c50, c51, c52, c53, c54, c55, c56, c57, c58, c59, c60, c61, c62, c63, c64, c65, c66, c68, o67, wn67, lk1, lk3⟩ hf hd K hK
                dsimp only at hK
                clear hd
                go_simp
                refine hK _ _ ?_ (fun h => by cases h)
                intro s hs
                cases hs
                exact ⟨hB, c0, c1, c2, c3, c4, c5, c6, c7, c8, c9, c10, c11, c12, (fun _ => rfl), c14, c15, c16, c17, c18, c19, c20, c21, c22, c23, c24, c25, c26, c27, c28, c29, c30, c31, c32, c33, c34, c35, c36, c37, c38, c39, c40, c41, c42, c43, c44, c45, c46, c47, c48, c49, c50, c51, c52, c53, c54, c55, c56, c57, c58, c59, c60, c61, c62, c63, c64, c65, c66, c68, o67, wn67, lk1, lk3⟩
              case s14r1 =>
                rintro L u W ⟨hB, c0, c1, c2, c3, c4, c5, c6, c7, c8, c9, c10, c11, c12, c13, c14, c15, c16, c17, c18, c19, c20, c21, c22, c23, c24, c25, c26, c27, c28, c29, c30, c31, c32, c33, c34, c35, c36, c37, c38, c39, c40, c41, c42, c43, c44, c45, c46, c47, c48, c49, c50, c51, c52, c53, c54, c55, c56, c57, c58, c59, c60, c61, c62, c63, c64, c65, c66, c68, o67, wn67, lk1, lk3⟩ hf hd K hK
                dsimp only at hK
                have hd13 : L 13 = true := (by first | (refine hd ⟨13, .data⟩ ?_ rfl; simp; done) | (refine hd ⟨13, .guard⟩ ?_ rfl; simp; done) | (refine hd ⟨13, .phase⟩ ?_ rfl; simp; done) | (refine hd ⟨13, .chain⟩ ?_ rfl; simp; done))
                have e13 := c13 hd13
                rw [e13] at hK
                have t0 := lk1.cell (i := 2) rfl
                clear hd13
                clear hd
                go_simp
                refine hK _ _ ?_ (fun h => by cases h)
                intro s hs
                cases hs
                exact ⟨hB, c0, c1, c2, c3, c4, c5, c6, c7, c8, c9, c10, c11, c12, c13, (fun _ => rfl), c15, c16, c17, c18, c19, c20, c21, c22, c23, c24, c25, c26, c27, c28, c29, c30, c31, c32, c33, c34, c35, c36, c37, c38, c39, c40, c41, c42, c43, c44, c45, c46, c47, c48, c49, c50, c51, c52, c53, c54, c55, c56, c57, c58, c59, c60, c61, c62, c63, c64, c65, c66, c68, o67, wn67, lk1, lk3⟩
              case s15r1 =>
                rintro L u W ⟨hB, c0, c1, c2, c3, c4, c5, c6, c7, c8, c9, c10, c11, c12, c13, c14, c15, c16, c17, c18, c19, c20, c21, c22, c23, c24, c25, c26, c27, c28, c29, c30, c31, c32, c33, c34, c35, c36, c37, c38, c39, c40, c41, c42, c43, c44, c45, c46, c47, c48, c49, c50, c51, c52, c53, c54, c55, c56, c57, c58, c59, c60, c61, c62, c63, c64, c65, c66, c68, o67, wn67, lk1, lk3⟩ hf hd K hK
                dsimp only at hK
                clear hd
                go_simp
                refine hK _ _ ?_ (fun h => by cases h)
                intro s hs
                cases hs
                exact ⟨hB, c0, c1, c2, c3, c4, c5, c6, c7, c8, c9, c10, c11, c12, c13, c14, (fun _ => rfl), c16, c17, c18, c19, c20, c21, c22, c23, c24, c25, c26, c27, c28, c29, c30, c31, c32, c33, c34, c35, c36, c37, c38, c39, c40, c41, c42, c43, c44, c45, c46, c47, c48, c49, c50, c51, c52, c53, c54, c55, c56, c57, c58, c59, c60, c61, c62, c63, c64, c65, c66, c68, o67, wn67, lk1, lk3⟩
              case s16r1 =>
                rintro L u W ⟨hB, c0, c1, c2, c3, c4, c5, c6, c7, c8, c9, c10, c11, c12, c13, c14, c15, c16, c17, c18, c19, c20, c21, c22, c23, c24, c25, c26, c27, c28, c29, c30, c31, c32, c33, c34, c35, c36, c37, c38, c39, c40, c41, c42, c43, c44, c45, c46, c47, c48, c49, c50, c51, c52, c53, c54, c55, c56, c57, c58, c59, c60, c61, c62, c63, c64, c65, c66, c68, o67, wn67, lk1, lk3⟩ hf hd K hK
                dsimp only at hK
                have hd15 : L 15 = true := (by first | (refine hd ⟨15, .data⟩ ?_ rfl; simp; done) | (refine hd ⟨15, .guard⟩ ?_ rfl; simp; done) | (refine hd ⟨15, .phase⟩ ?_ rfl; simp; done) | (refine hd ⟨15, .chain⟩ ?_ rfl; simp; done))
                have e15 := c15 hd15
                rw [e15] at hK
                clear hd15
                clear hd
                go_simp
                refine hK _ _ ?_ (fun h => by cases h)
                intro s hs
                cases hs
                exact ⟨hB, c0, c1, c2, c3, c4, c5, c6, c7, c8, c9, c10, c11, c12, c13, c14, c15, (fun _ => rfl), c17, c18, c19, c20, c21, c22, c23, c24, c25, c26, c27, c28, c29, c30, c31, c32, c33, c34, c35, c36, c37, c38, c39, c40, c41, c42, c43, c44, c45, c46, c47, c48, c49, c50, c51, c52, c53, c54, c55, c56, c57, c58, c59, c60, c61, c62, c63, c64, c65, c66, c68, o67, wn67, lk1, lk3⟩
              case s17r1 =>
                rintro L u W ⟨hB, c0, c1, c2, c3, c4, c5, c6, c7, c8, c9, c10, c11, c12, c13, c14, c15, c16, c17, c18, c19, c20, c21, c22, c23, c24, c25, c26, c27, c28, c29, c30, c31, c32, c33, c34, c35, c36, c37, c38, c39, c40, c41, c42, c43, c44, c45, c46, c47, c48, c49, c50, c51, c52, c53, c54, c55, c56, c57, c58, c59, c60, c61, c62, c63, c64, c65, c66, c68, o67, wn67, lk1, lk3⟩ hf hd K hK
                dsimp only at hK
                have hd16 : L 16 = true := (by first | (refine hd ⟨16, .data⟩ ?_ rfl; simp; done) | (refine hd ⟨16, .guard⟩ ?_ rfl; simp; done) | (refine hd ⟨16, .phase⟩ ?_ rfl; simp; done) | (refine hd ⟨16, .chain⟩ ?_ rfl; simp; done))
                have e16 := c16 hd16
                rw [e16] at hK
                have t0 := lk3.cell (i := 6) rfl
                clear hd16
                clear hd
                go_simp
                refine hK _ _ ?_ (fun h => by cases h)
                intro s hs
                cases hs
                exact ⟨hB, c0, c1, c2, c3, c4, c5, c6, c7, c8, c9, c10, c11, c12, c13, c14, c15, c16, (fun _ => rfl), c18, c19, c20, c21, c22, c23, c24, c25, c26, c27, c28, c29, c30, c31, c32, c33, c34, c35, c36, c37, c38, c39, c40, c41, c42, c43, c44, c45, c46, c47, c48, c49, c50, c51, c52, c53, c54, c55, c56, c57, c58, c59, c60, c61, c62, c63, c64, c65, c66, c68, o67, wn67, lk1, lk3⟩
              case s18r1 =>
                rintro L u W ⟨hB, c0, c1, c2, c3, c4, c5, c6, c7, c8, c9, c10, c11, c12, c13, c14, c15, c16, c17, c18, c19, c20, c21, c22, c23, c24, c25, c26, c27, c28, c29, c30, c31, c32, c33, c34, c35, c36, c37, c38, c39, c40, c41, c42, c43, c44, c45, c46, c47, c48, c49, c50, c51, c52, c53, c54, c55, c56, c57, c58, c59, c60, c61, c62, c63, c64, c65, c66, c68, o67, wn67, lk1, lk3⟩ hf hd K hK
                dsimp only at hK
                have hd14 : L 14 = true := (by first | (refine hd ⟨14, .data⟩ ?_ rfl; simp; done) | (refine hd ⟨14, .guard⟩ ?_ rfl; simp; done) | (refine hd ⟨14, .phase⟩ ?_ rfl; simp; done) | (refine hd ⟨14, .chain⟩ ?_ rfl; simp; done))
                have hd17 : L 17 = true := (by first | (refine hd ⟨17, .data⟩ ?_ rfl; simp; done) | (refine hd ⟨17, .guard⟩ ?_ rfl; simp; done) | (refine hd ⟨17, .phase⟩ ?_ rfl; simp; done) | (refine hd ⟨17, .chain⟩ ?_ rfl; simp; done))
                have e14 := c14 hd14
                rw [e14] at hK
                have e17 := c17 hd17
                rw [e17] at hK
                clear hd14
                clear hd17
                clear hd
                go_simp
                refine hK _ _ ?_ (fun h => by cases h)
                intro s hs
                cases hs
                exact ⟨hB, c0, c1, c2, c3, c4, c5, c6, c7, c8, c9, c10, c11, c12, c13, c14, c15, c16, c17, (fun _ => rfl), c19, c20, c21, c22, c23, c24, c25, c26, c27, c28, c29, c30, c31, c32, c33, c34, c35, c36, c37, c38, c39, c40, c41, c42, c43, c44, c45, c46, c47, c48, c49, c50, c51, c52, c53, c54, c55, c56, c57, c58, c59, c60, c61, c62, c63, c64, c65, c66, c68, o67, wn67, lk1, lk3⟩
              case s19r1 =>
                rintro L u W ⟨hB, c0, c1, c2, c3, c4, c5, c6, c7, c8, c9, c10, c11, c12, c13, c14, c15, c16, c17, c18, c19, c20, c21, c22, c23, c24, c25, c26, c27, c28, c29, c30, c31, c32, c33, c34, c35, c36, c37, c38, c39, c40, c41, c42, c43, c44, c45, c46, c47, c48, c49, c50, c51, c52, c53, c54, c55, c56, c57, c58, c59, c60, c61, c62, c63, c64, c65, c66, c68, o67, wn67, lk1, lk3⟩ hf hd K hK
                dsimp only at hK
                have hd12 : L 12 = true := (by first | (refine hd ⟨12, .data⟩ ?_ rfl; simp; done) | (refine hd ⟨12, .guard⟩ ?_ rfl; simp; done) | (refine hd ⟨12, .phase⟩ ?_ rfl; simp; done) | (refine hd ⟨12, .chain⟩ ?_ rfl; simp; done))
                have hd18 : L 18 = true := (by first | (refine hd ⟨18, .data⟩ ?_ rfl; simp; done) | (refine hd ⟨18, .guard⟩ ?_ rfl; simp; done) | (refine hd ⟨18, .phase⟩ ?_ rfl; simp; done) | (refine hd ⟨18, .chain⟩ ?_ rfl; simp; done))
                have e12 := c12 hd12
                rw [e12] at hK
                have e18 := c18 hd18
                rw [e18] at hK
                clear hd12
                clear hd18
                clear hd
                go_simp
                refine hK _ _ ?_ (fun h => by cases h)
                intro s hs
                cases hs
                exact ⟨hB, c0, c1, c2, c3, c4, c5, c6, c7, c8, c9, c10, c11, c12, c13, c14, c15, c16, c17, c18, (fun _ => rfl), c20, c21, c22, c23, c24, c25, c26, c27, c28, c29, c30, c31, c32, c33, c34, c35, c36, c37, c38, c39, c40, c41, c42, c43, c44, c45, c46, c47, c48, c49, c50, c51, c52, c53, c54, c55, c56, c57, c58, c59, c60, c61, c62, c63, c64, c65, c66, c68, o67, wn67, lk1, lk3⟩
              case s20r1 =>
                rintro L u W ⟨hB, c0, c1, c2, c3, c4, c5, c6, c7, c8, c9, c10, c11, c12, c13, c14, c15, c16, c17, c18, c19, c20, c21, c22, c23, c24, c25, c26, c27, c28, c29, c30, c31, c32, c33, c34, c35, c36, c37, c38, c39, c40, c41, c42, c43, c44, c45, c46, c47, c48, c49, c50, c51, c52, c53, c54, c55, c56, c57, c58, c59, c60, c61, c62, c63, c64, c65, c66, c68, o67, wn67, lk1, lk3⟩ hf hd K hK
                dsimp only at hK
                clear hd
                go_simp
                refine hK _ _ ?_ (fun h => by cases h)
                intro s hs
                cases hs
                exact ⟨hB, c0, c1, c2, c3, c4, c5, c6, c7, c8, c9, c10, c11, c12, c13, c14, c15, c16, c17, c18, c19, (fun _ => rfl), c21, c22, c23, c24, c25, c26, c27, c28, c29, c30, c31, c32, c33, c34, c35, c36, c37, c38, c39, c40, c41, c42, c43, c44, c45, c46, c47, c48, c49, c50, c51, c52, c53, c54, c55, c56, c57, c58, c59, c60, c61, c62, c63, c64, c65, c66, c68, o67, wn67, lk1, lk3⟩
              case s21r1 =>
                rintro L u W ⟨hB, c0, c1, c2, c3, c4, c5, c6, c7, c8, c9, c10, c11, c12, c13, c14, c15, c16, c17, c18, c19, c20, c21, c22, c23, c24, c25, c26, c27, c28, c29, c30, c31, c32, c33, c34, c35, c36, c37, c38, c39, c40, c41, c42, c43, c44, c45, c46, c47, c48, c49, c50, c51, c52, c53, c54, c55, c56, c57, c58, c59, c60, c61, c62, c63, c64, c65, c66, c68, o67, wn67, lk1, lk3⟩ hf hd K hK
                dsimp only at hK
                have hd19 : L 19 = true := (by first | (refine hd ⟨19, .data⟩ ?_ rfl; simp; done) | (refine hd ⟨19, .guard⟩ ?_ rfl; simp; done) | (refine hd ⟨19, .phase⟩ ?_ rfl; simp; done) | (refine hd ⟨19, .chain⟩ ?_ rfl; simp; done))
                have hd20 : L 20 = true := (by first | (refine hd ⟨20, .data⟩ ?_ rfl; simp; done) | (refine hd ⟨20, .guard⟩ ?_ rfl; simp; done) | (refine hd ⟨20, .phase⟩ ?_ rfl; simp; done) | (refine hd ⟨20, .chain⟩ ?_ rfl; simp; done))
                have e19 := c19 hd19
                rw [e19] at hK
                have e20 := c20 hd20
                rw [e20] at hK
                clear hd19
                clear hd20
                clear hd
                go_simp
                go_wp2_with (go_at_call 26; ((with_reducible refine (G0.out _).mono ?_); rintro e w5 ⟨rfl, hb⟩))
                refine hK _ _ ?_ (fun h => by cases h)
                intro s hs
                cases hs
                exact ⟨hB.trans (hb.mono (Nat.le_trans hbound hB.size)), c0, c1, c2, c3, c4, c5, c6, c7, c8, c9, c10, c11, c12, c13, c14, c15, c16, c17, c18, c19, c20, (fun _ => rfl), c22, c23, c24, c25, c26, c27, c28, c29, c30, c31, c32, c33, c34, c35, c36, c37, c38, c39, c40, c41, c42, c43, c44, c45, c46, c47, c48, c49, c50, c51, c52, c53, c54, c55, c56, c57, c58, c59, c60, c61, c62, c63, c64, c65, c66, c68, (fun h => (o67 h).keep hb), (fun h => (wn67 h).keep hb), (lk1.keep hb), (lk3.keep hb)⟩
              case s22r1 =>
                rintro L u W ⟨hB, c0, c1, c2, c3, c4, c5, c6, c7, c8, c9, c10, c11, c12, c13, c14, c15, c16, c17, c18, c19, c20, c21, c22, c23, c24, c25, c26, c27, c28, c29, c30, c31, c32, c33, c34, c35, c36, c37, c38, c39, c40, c41, c42, c43, c44, c45, c46, c47, c48, c49, c50, c51, c52, c53, c54, c55, c56, c57, c58, c59, c60, c61, c62, c63, c64, c65, c66, c68, o67, wn67, lk1, lk3⟩ hf hd K hK
                dsimp only at hK
                clear hd
                go_simp
                refine hK _ _ ?_ (fun h => by cases h)
                intro s hs
                cases hs
                exact ⟨hB, c0, c1, c2, c3, c4, c5, c6, c7, c8, c9, c10, c11, c12, c13, c14, c15, c16, c17, c18, c19, c20, c21, (fun _ => rfl), c23, c24, c25, c26, c27, c28, c29, c30, c31, c32, c33, c34, c35, c36, c37, c38, c39, c40, c41, c42, c43, c44, c45, c46, c47, c48, c49, c50, c51, c52, c53, c54, c55, c56, c57, c58, c59, c60, c61, c62, c63, c64, c65, c66, c68, o67, wn67, lk1, lk3⟩
              case s23r1 =>
                rintro L u W ⟨hB, c0, c1, c2, c3, c4, c5, c6, c7, c8, c9, c10, c11, c12, c13, c14, c15, c16, c17, c18, c19, c20, c21, c22, c23, c24, c25, c26, c27, c28, c29, c30, c31, c32, c33, c34, c35, c36, c37, c38, c39, c40, c41, c42, c43, c44, c45, c46, c47, c48, c49, c50, c51, c52, c53, c54, c55, c56, c57, c58, c59, c60, c61, c62, c63, c64, c65, c66, c68, o67, wn67, lk1, lk3⟩ hf hd K hK
                dsimp only at hK
                have hd22 : L 22 = true := (by first | (refine hd ⟨22, .data⟩ ?_ rfl; simp; done) | (refine hd ⟨22, .guard⟩ ?_ rfl; simp; done) | (refine hd ⟨22, .phase⟩ ?_ rfl; simp; done) | (refine hd ⟨22, .chain⟩ ?_ rfl; simp; done))
                have e22 := c22 hd22
                rw [e22] at hK
                have t0 := lk1.cell (i := 0) rfl
                clear hd22
                clear hd
                go_simp
                refine hK _ _ ?_ (fun h => by cases h)
                intro s hs
                cases hs
                exact ⟨hB, c0, c1, c2, c3, c4, c5, c6, c7, c8, c9, c10, c11, c12, c13, c14, c15, c16, c17, c18, c19, c20, c21, c22, (fun _ => rfl), c24, c25, c26, c27, c28, c29, c30, c31, c32, c33, c34, c35, c36, c37, c38, c39, c40, c41, c42, c43, c44, c45, c46, c47, c48, c49, c50, c51, c52, c53, c54, c55, c56, c57, c58, c59, c60, c61, c62, c63, c64, c65, c66, c68, o67, wn67, lk1, lk3⟩
              case s24r1 =>
                rintro L u W ⟨hB, c0, c1, c2, c3, c4, c5, c6, c7, c8, c9, c10, c11, c12, c13, c14, c15, c16, c17, c18, c19, c20, c21, c22, c23, c24, c25, c26, c27, c28, c29, c30, c31, c32, c33, c34, c35, c36, c37, c38, c39, c40, c41, c42, c43, c44, c45, c46, c47, c48, c49, c50, c51, c52, c53, c54, c55, c56, c57, c58, c59, c60, c61, c62, c63, c64, c65, c66, c68, o67, wn67, lk1, lk3⟩ hf hd K hK
                dsimp only at hK
                clear hd
                go_simp
                refine hK _ _ ?_ (fun h => by cases h)
                intro s hs
                cases hs
                exact ⟨hB, c0, c1, c2, c3, c4, c5, c6, c7, c8, c9, c10, c11, c12, c13, c14, c15, c16, c17, c18, c19, c20, c21, c22, c23, (fun _ => rfl), c25, c26, c27, c28, c29, c30, c31, c32, c33, c34, c35, c36, c37, c38, c39, c40, c41, c42, c43, c44, c45, c46, c47, c48, c49, c50, c51, c52, c53, c54, c55, c56, c57, c58, c59, c60, c61, c62, c63, c64, c65, c66, c68, o67, wn67, lk1, lk3⟩
              case s25r1 =>
                rintro L u W ⟨hB, c0, c1, c2, c3, c4, c5, c6, c7, c8, c9, c10, c11, c12, c13, c14, c15, c16, c17, c18, c19, c20, c21, c22, c23, c24, c25, c26, c27, c28, c29, c30, c31, c32, c33, c34, c35, c36, c37, c38, c39, c40, c41, c42, c43, c44, c45, c46, c47, c48, c49, c50, c51, c52, c53, c54, c55, c56, c57, c58, c59, c60, c61, c62, c63, c64, c65, c66, c68, o67, wn67, lk1, lk3⟩ hf hd K hK
                dsimp only at hK
                have hd24 : L 24 = true := (by first | (refine hd ⟨24, .data⟩ ?_ rfl; simp; done) | (refine hd ⟨24, .guard⟩ ?_ rfl; simp; done) | (refine hd ⟨24, .phase⟩ ?_ rfl; simp; done) | (refine hd ⟨24, .chain⟩ ?_ rfl; simp; done))
                have e24 := c24 hd24
                rw [e24] at hK
                clear hd24
                clear hd
                go_simp
                refine hK _ _ ?_ (fun h => by cases h)
                intro s hs
                cases hs
                exact ⟨hB, c0, c1, c2, c3, c4, c5, c6, c7, c8, c9, c10, c11, c12, c13, c14, c15, c16, c17, c18, c19, c20, c21, c22, c23, c24, (fun _ => rfl), c26, c27, c28, c29, c30, c31, c32, c33, c34, c35, c36, c37, c38, c39, c40, c41, c42, c43, c44, c45, c46, c47, c48, c49, c50, c51, c52, c53, c54, c55, c56, c57, c58, c59, c60, c61, c62, c63, c64, c65, c66, c68, o67, wn67, lk1, lk3⟩
              case s26r1 =>
                rintro L u W ⟨hB, c0, c1, c2, c3, c4, c5, c6, c7, c8, c9, c10, c11, c12, c13, c14, c15, c16, c17, c18, c19, c20, c21, c22, c23, c24, c25, c26, c27, c28, c29, c30, c31, c32, c33, c34, c35, c36, c37, c38, c39, c40, c41, c42, c43, c44, c45, c46, c47, c48, c49, c50, c51, c52, c53, c54, c55, c56, c57, c58, c59, c60, c61, c62, c63, c64, c65, c66, c68, o67, wn67, lk1, lk3⟩ hf hd K hK
                dsimp only at hK
                have hd25 : L 25 = true := (by first | (refine hd ⟨25, .data⟩ ?_ rfl; simp; done) | (refine hd ⟨25, .guard⟩ ?_ rfl; simp; done) | (refine hd ⟨25, .phase⟩ ?_ rfl; simp; done) | (refine hd ⟨25, .chain⟩ ?_ rfl; simp; done))
                have e25 := c25 hd25
                rw [e25] at hK
                have t0 := lk3.cell (i := 1) rfl
                clear hd25
                clear hd
                go_simp
                refine hK _ _ ?_ (fun h => by cases h)
                intro s hs
                cases hs
                exact ⟨hB, c0, c1, c2, c3, c4, c5, c6, c7, c8, c9, c10, c11, c12, c13, c14, c15, c16, c17, c18, c19, c20, c21, c22, c23, c24, c25, (fun _ => rfl), c27, c28, c29, c30, c31, c32, c33, c34, c35, c36, c37, c38, c39, c40, c41, c42, c43, c44, c45, c46, c47, c48, c49, c50, c51, c52, c53, c54, c55, c56, c57, c58, c59, c60, c61, c62, c63, c64, c65, c66, c68, o67, wn67, lk1, lk3⟩
              case s27r1 =>
                rintro L u W ⟨hB, c0, c1, c2, c3, c4, c5, c6, c7, c8, c9, c10, c11, c12, c13, c14, c15, c16, c17, c18, c19, c20, c21, c22, c23, c24, c25, c26, c27, c28, c29, c30, c31, c32, c33, c34, c35, c36, c37, c38, c39, c40, c41, c42, c43, c44, c45, c46, c47, c48, c49, c50, c51, c52, c53, c54, c55, c56, c57, c58, c59, c60, c61, c62, c63, c64, c65, c66, c68, o67, wn67, lk1, lk3⟩ hf hd K hK
                dsimp only at hK
                have hd23 : L 23 = true := (by first | (refine hd ⟨23, .data⟩ ?_ rfl; simp; done) | (refine hd ⟨23, .guard⟩ ?_ rfl; simp; done) | (refine hd ⟨23, .phase⟩ ?_ rfl; simp; done) | (refine hd ⟨23, .chain⟩ ?_ rfl; simp; done))
                have hd26 : L 26 = true := (by first | (refine hd ⟨26, .data⟩ ?_ rfl; simp; done) | (refine hd ⟨26, .guard⟩ ?_ rfl; simp; done) | (refine hd ⟨26, .phase⟩ ?_ rfl; simp; done) | (refine hd ⟨26, .chain⟩ ?_ rfl; simp; done))
                have e23 := c23 hd23
                rw [e23] at hK
                have e26 := c26 hd26
                rw [e26] at hK
                clear hd23
                clear hd26
                clear hd
                go_simp
                refine hK _ _ ?_ (fun h => by cases h)
                intro s hs
                cases hs
                exact ⟨hB, c0, c1, c2, c3, c4, c5, c6, c7, c8, c9, c10, c11, c12, c13, c14, c15, c16, c17, c18, c19, c20, c21, c22, c23, c24, c25, c26, (fun _ => rfl), c28, c29, c30, c31, c32, c33, c34, c35, c36, c37, c38, c39, c40, c41, c42, c43, c44, c45, c46, c47, c48, c49, c50, c51, c52, c53, c54, c55, c56, c57, c58, c59, c60, c61, c62, c63, c64, c65, c66, c68, o67, wn67, lk1, lk3⟩
              case s28r1 =>
                rintro L u W ⟨hB, c0, c1, c2, c3, c4, c5, c6, c7, c8, c9, c10, c11, c12, c13, c14, c15, c16, c17, c18, c19, c20, c21, c22, c23, c24, c25, c26, c27, c28, c29, c30, c31, c32, c33, c34, c35, c36, c37, c38, c39, c40, c41, c42, c43, c44, c45, c46, c47, c48, c49, c50, c51, c52, c53, c54, c55, c56, c57, c58, c59, c60, c61, c62, c63, c64, c65, c66, c68, o67, wn67, lk1, lk3⟩ hf hd K hK
                dsimp only at hK
                clear hd
                go_simp
                refine hK _ _ ?_ (fun h => by cases h)
                intro s hs
                cases hs
                exact ⟨hB, c0, c1, c2, c3, c4, c5, c6, c7, c8, c9, c10, c11, c12, c13, c14, c15, c16, c17, c18, c19, c20, c21, c22, c23, c24, c25, c26, c27, (fun _ => rfl), c29, c30, c31, c32, c33, c34, c35, c36, c37, c38, c39, c40, c41, c42, c43, c44, c45, c46, c47, c48, c49, c50, c51, c52, c53, c54, c55, c56, c57, c58, c59, c60, c61, c62, c63, c64, c65, c66, c68, o67, wn67, lk1, lk3⟩
              case s29r1 =>
                rintro L u W ⟨hB, c0, c1, c2, c3, c4, c5, c6, c7, c8, c9, c10, c11, c12, c13, c14, c15, c16, c17, c18, c19, c20, c21, c22, c23, c24, c25, c26, c27, c28, c29, c30, c31, c32, c33, c34, c35, c36, c37, c38, c39, c40, c41, c42, c43, c44, c45, c46, c47, c48, c49, c50, c51, c52, c53, c54, c55, c56, c57, c58, c59, c60, c61, c62, c63, c64, c65, c66, c68, o67, wn67, lk1, lk3⟩ hf hd K hK
                dsimp only at hK
                have hd28 : L 28 = true := (by first | (refine hd ⟨28, .data⟩ ?_ rfl; simp; done) | (refine hd ⟨28, .guard⟩ ?_ rfl; simp; done) | (refine hd ⟨28, .phase⟩ ?_ rfl; simp; done) | (refine hd ⟨28, .chain⟩ ?_ rfl; simp; done))
                have e28 := c28 hd28
                rw [e28] at hK
                have t0 := lk1.cell (i := 1) rfl
                clear hd28
                clear hd
                go_simp
                refine hK _ _ ?_ (fun h => by cases h)
                intro s hs
                cases hs
                exact ⟨hB, c0, c1, c2, c3, c4, c5, c6, c7, c8, c9, c10, c11, c12, c13, c14, c15, c16, c17, c18, c19, c20, c21, c22, c23, c24, c25, c26, c27, c28, (fun _ => rfl), c30, c31, c32, c33, c34, c35, c36, c37, c38, c39, c40, c41, c42, c43, c44, c45, c46, c47, c48, c49, c50, c51, c52, c53, c54, c55, c56, c57, c58, c59, c60, c61, c62, c63, c64, c65, c66, c68, o67, wn67, lk1, lk3⟩
              case s30r1 =>
                rintro L u W ⟨hB, c0, c1, c2, c3, c4, c5, c6, c7, c8, c9, c10, c11, c12, c13, c14, c15, c16, c17, c18, c19, c20, c21, c22, c23, c24, c25, c26, c27, c28, c29, c30, c31, c32, c33, c34, c35, c36, c37, c38, c39, c40, c41, c42, c43, c44, c45, c46, c47, c48, c49, c50, c51, c52, c53, c54, c55, c56, c57, c58, c59, c60, c61, c62, c63, c64, c65, c66, c68, o67, wn67, lk1, lk3⟩ hf hd K hK
                dsimp only at hK
                clear hd
                go_simp
                refine hK _ _ ?_ (fun h => by cases h)
                intro s hs
                cases hs
                exact ⟨hB, c0, c1, c2, c3, c4, c5, c6, c7, c8, c9, c10, c11, c12, c13, c14, c15, c16, c17, c18, c19, c20, c21, c22, c23, c24, c25, c26, c27, c28, c29, (fun _ => rfl), c31, c32, c33, c34, c35, c36, c37, c38, c39, c40, c41, c42, c43, c44, c45, c46, c47, c48, c49, c50, c51, c52, c53, c54, c55, c56, c57, c58, c59, c60, c61, c62, c63, c64, c65, c66, c68, o67, wn67, lk1, lk3⟩
              case s31r1 =>
                rintro L u W ⟨hB, c0, c1, c2, c3, c4, c5, c6, c7, c8, c9, c10, c11, c12, c13, c14, c15, c16, c17, c18, c19, c20, c21, c22, c23, c24, c25, c26, c27, c28, c29, c30, c31, c32, c33, c34, c35, c36, c37, c38, c39, c40, c41, c42, c43, c44, c45, c46, c47, c48, c49, c50, c51, c52, c53, c54, c55, c56, c57, c58, c59, c60, c61, c62, c63, c64, c65, c66, c68, o67, wn67, lk1, lk3⟩ hf hd K hK
                dsimp only at hK
                have hd30 : L 30 = true := (by first | (refine hd ⟨30, .data⟩ ?_ rfl; simp; done) | (refine hd ⟨30, .guard⟩ ?_ rfl; simp; done) | (refine hd ⟨30, .phase⟩ ?_ rfl; simp; done) | (refine hd ⟨30, .chain⟩ ?_ rfl; simp; done))
                have e30 := c30 hd30
                rw [e30] at hK
                clear hd30
                clear hd
                go_simp
                refine hK _ _ ?_ (fun h => by cases h)
                intro s hs
                cases hs
                exact ⟨hB, c0, c1, c2, c3, c4, c5, c6, c7, c8, c9, c10, c11, c12, c13, c14, c15, c16, c17, c18, c19, c20, c21, c22, c23, c24, c25, c26, c27, c28, c29, c30, (fun _ => rfl), c32, c33, c34, c35, c36, c37, c38, c39, c40, c41, c42, c43, c44, c45, c46, c47, c48, c49, c50, c51, c52, c53, c54, c55, c56, c57, c58, c59, c60, c61, c62, c63, c64, c65, c66, c68, o67, wn67, lk1, lk3⟩
              case s32r1 =>
                rintro L u W ⟨hB, c0, c1, c2, c3, c4, c5, c6, c7, c8, c9, c10, c11, c12, c13, c14, c15, c16, c17, c18, c19, c20, c21, c22, c23, c24, c25, c26, c27, c28, c29, c30, c31, c32, c33, c34, c35, c36, c37, c38, c39, c40, c41, c42, c43, c44, c45, c46, c47, c48, c49, c50, c51, c52, c53, c54, c55, c56, c57, c58, c59, c60, c61, c62, c63, c64, c65, c66, c68, o67, wn67, lk1, lk3⟩ hf hd K hK
                dsimp only at hK
                have hd31 : L 31 = true := (by first | (refine hd ⟨31, .data⟩ ?_ rfl; simp; done) | (refine hd ⟨31, .guard⟩ ?_ rfl; simp; done) | (refine hd ⟨31, .phase⟩ ?_ rfl; simp; done) | (refine hd ⟨31, .chain⟩ ?_ rfl; simp; done))
                have e31 := c31 hd31
                rw [e31] at hK
                have t0 := lk3.cell (i := 4) rfl
                clear hd31
                clear hd
                go_simp
                refine hK _ _ ?_ (fun h => by cases h)
                intro s hs
                cases hs
                exact ⟨hB, c0, c1, c2, c3, c4, c5, c6, c7, c8, c9, c10, c11, c12, c13, c14, c15, c16, c17, c18, c19, c20, c21, c22, c23, c24, c25, c26, c27, c28, c29, c30, c31, (fun _ => rfl), c33, c34, c35, c36, c37, c38, c39, c40, c41, c42, c43, c44, c45, c46, c47, c48, c49, c50, c51, c52, c53, c54, c55, c56, c57, c58, c59, c60, c61, c62, c63, c64, c65, c66, c68, o67, wn67, lk1, lk3⟩
              case s33r1 =>
                rintro L u W ⟨hB, c0, c1, c2, c3, c4, c5, c6, c7, c8, c9, c10, c11, c12, c13, c14, c15, c16, c17, c18, c19, c20, c21, c22, c23, c24, c25, c26, c27, c28, c29, c30, c31, c32, c33, c34, c35, c36, c37, c38, c39, c40, c41, c42, c43, c44, c45, c46, c47, c48, c49, c50, c51, c52, c53, c54, c55, c56, c57, c58, c59, c60, c61, c62, c63, c64, c65, c66, c68, o67, wn67, lk1, lk3⟩ hf hd K hK
                dsimp only at hK
                have hd29 : L 29 = true := (by first | (refine hd ⟨29, .data⟩ ?_ rfl; simp; done) | (refine hd ⟨29, .guard⟩ ?_ rfl; simp; done) | (refine hd ⟨29, .phase⟩ ?_ rfl; simp; done) | (refine hd ⟨29, .chain⟩ ?_ rfl; simp; done))
                have hd32 : L 32 = true := (by first | (refine hd ⟨32, .data⟩ ?_ rfl; simp; done) | (refine hd ⟨32, .guard⟩ ?_ rfl; simp; done) | (refine hd ⟨32, .phase⟩ ?_ rfl; simp; done) | (refine hd ⟨32, .chain⟩ ?_ rfl; simp; done))
                have e29 := c29 hd29
                rw [e29] at hK
                have e32 := c32 hd32
                rw [e32] at hK
                clear hd29
                clear hd32
                clear hd
                go_simp
                refine hK _ _ ?_ (fun h => by cases h)
                intro s hs
                cases hs
                exact ⟨hB, c0, c1, c2, c3, c4, c5, c6, c7, c8, c9, c10, c11, c12, c13, c14, c15, c16, c17, c18, c19, c20, c21, c22, c23, c24, c25, c26, c27, c28, c29, c30, c31, c32, (fun _ => rfl), c34, c35, c36, c37, c38, c39, c40, c41, c42, c43, c44, c45, c46, c47, c48, c49, c50, c51, c52, c53, c54, c55, c56, c57, c58, c59, c60, c61, c62, c63, c64, c65, c66, c68, o67, wn67, lk1, lk3⟩
              case s34r1 =>
                rintro L u W ⟨hB, c0, c1, c2, c3, c4, c5, c6, c7, c8, c9, c10, c11, c12, c13, c14, c15, c16, c17, c18, c19, c20, c21, c22, c23, c24, c25, c26, c27, c28, c29, c30, c31, c32, c33, c34, c35, c36, c37, c38, c39, c40, c41, c42, c43, c44, c45, c46, c47, c48, c49, c50, c51, c52, c53, c54, c55, c56, c57, c58, c59, c60, c61, c62, c63, c64, c65, c66, c68, o67, wn67, lk1, lk3⟩ hf hd K hK
                dsimp only at hK
                have hd27 : L 27 = true := (by first | (refine hd ⟨27, .data⟩ ?_ rfl; simp; done) | (refine hd ⟨27, .guard⟩ ?_ rfl; simp; done) | (refine hd ⟨27, .phase⟩ ?_ rfl; simp; done) | (refine hd ⟨27, .chain⟩ ?_ rfl; simp; done))
                have hd33 : L 33 = true := (by first | (refine hd ⟨33, .data⟩ ?_ rfl; simp; done) | (refine hd ⟨33, .guard⟩ ?_ rfl; simp; done) | (refine hd ⟨33, .phase⟩ ?_ rfl; simp; done) | (refine hd ⟨33, .chain⟩ ?_ rfl; simp; done))
                have e27 := c27 hd27
                rw [e27] at hK
                have e33 := c33 hd33
                rw [e33] at hK
                clear hd27
                clear hd33
                clear hd
                go_simp
                refine hK _ _ ?_ (fun h => by cases h)
                intro s hs
                cases hs
                exact ⟨hB, c0, c1, c2, c3, c4, c5, c6, c7, c8, c9, c10, c11, c12, c13, c14, c15, c16, c17, c18, c19, c20, c21, c22, c23, c24, c25, c26, c27, c28, c29, c30, c31, c32, c33, (fun _ => rfl), c35, c36, c37, c38, c39, c40, c41, c42, c43, c44, c45, c46, c47, c48, c49, c50, c51, c52, c53, c54, c55, c56, c57, c58, c59, c60, c61, c62, c63, c64, c65, c66, c68, o67, wn67, lk1, lk3⟩
              case s35r1 =>
                rintro L u W ⟨hB, c0, c1, c2, c3, c4, c5, c6, c7, c8, c9, c10, c11, c12, c13, c14, c15, c16, c17, c18, c19, c20, c21, c22, c23, c24, c25, c26, c27, c28, c29, c30, c31, c32, c33, c34, c35, c36, c37, c38, c39, c40, c41, c42, c43, c44, c45, c46, c47, c48, c49, c50, c51, c52, c53, c54, c55, c56, c57, c58, c59, c60, c61, c62, c63, c64, c65, c66, c68, o67, wn67, lk1, lk3⟩ hf hd K hK
                dsimp only at hK
                clear hd
                go_simp
                refine hK _ _ ?_ (fun h => by cases h)
                intro s hs
                cases hs
                exact ⟨hB, c0, c1, c2, c3, c4, c5, c6, c7, c8, c9, c10, c11, c12, c13, c14, c15, c16, c17, c18, c19, c20, c21, c22, c23, c24, c25, c26, c27, c28, c29, c30, c31, c32, c33, c34, (fun _ => rfl), c36, c37, c38, c39, c40, c41, c42, c43, c44, c45, c46, c47, c48, c49, c50, c51, c52, c53, c54, c55, c56, c57, c58, c59, c60, c61, c62, c63, c64, c65, c66, c68, o67, wn67, lk1, lk3⟩
              case s36r1 =>
                rintro L u W ⟨hB, c0, c1, c2, c3, c4, c5, c6, c7, c8, c9, c10, c11, c12, c13, c14, c15, c16, c17, c18, c19, c20, c21, c22, c23, c24, c25, c26, c27, c28, c29, c30, c31, c32, c33, c34, c35, c36, c37, c38, c39, c40, c41, c42, c43, c44, c45, c46, c47, c48, c49, c50, c51, c52, c53, c54, c55, c56, c57, c58, c59, c60, c61, c62, c63, c64, c65, c66, c68, o67, wn67, lk1, lk3⟩ hf hd K hK
                dsimp only at hK
                have hd35 : L 35 = true := (by first | (refine hd ⟨35, .data⟩ ?_ rfl; simp; done) | (refine hd ⟨35, .guard⟩ ?_ rfl; simp; done) | (refine hd ⟨35, .phase⟩ ?_ rfl; simp; done) | (refine hd ⟨35, .chain⟩ ?_ rfl; simp; done))
                have e35 := c35 hd35
                rw [e35] at hK
                have t0 := lk1.cell (i := 2) rfl
                clear hd35
                clear hd
                go_simp
                refine hK _ _ ?_ (fun h => by cases h)
                intro s hs
                cases hs
                exact ⟨hB, c0, c1, c2, c3, c4, c5, c6, c7, c8, c9, c10, c11, c12, c13, c14, c15, c16, c17, c18, c19, c20, c21, c22, c23, c24, c25, c26, c27, c28, c29, c30, c31, c32, c33, c34, c35, (fun _ => rfl), c37, c38, c39, c40, c41, c42, c43, c44, c45, c46, c47, c48, c49, c50, c51, c52, c53, c54, c55, c56, c57, c58, c59, c60, c61, c62, c63, c64, c65, c66, c68, o67, wn67, lk1, lk3⟩
              case s37r1 =>
                rintro L u W ⟨hB, c0, c1, c2, c3, c4, c5, c6, c7, c8, c9, c10, c11, c12, c13, c14, c15, c16, c17, c18, c19, c20, c21, c22, c23, c24, c25, c26, c27, c28, c29, c30, c31, c32, c33, c34, c35, c36, c37, c38, c39, c40, c41, c42, c43, c44, c45, c46, c47, c48, c49, c50, c51, c52, c53, c54, c55, c56, c57, c58, c59, c60, c61, c62, c63, c64, c65, c66, c68, o67, wn67, lk1, lk3⟩ hf hd K hK
                dsimp only at hK
                clear hd
                go_simp
                refine hK _ _ ?_ (fun h => by cases h)
                intro s hs
                cases hs
                exact ⟨hB, c0, c1, c2, c3, c4, c5, c6, c7, c8, c9, c10, c11, c12, c13, c14, c15, c16, c17, c18, c19, c20, c21, c22, c23, c24, c25, c26, c27, c28, c29, c30, c31, c32, c33, c34, c35, c36, (fun _ => rfl), c38, c39, c40, c41, c42, c43, c44, c45, c46, c47, c48, c49, c50, c51, c52, c53, c54, c55, c56, c57, c58, c59, c60, c61, c62, c63, c64, c65, c66, c68, o67, wn67, lk1, lk3⟩
              case s38r1 =>
                rintro L u W ⟨hB, c0, c1, c2, c3, c4, c5, c6, c7, c8, c9, c10, c11, c12, c13, c14, c15, c16, c17, c18, c19, c20, c21, c22, c23, c24, c25, c26, c27, c28, c29, c30, c31, c32, c33, c34, c35, c36, c37, c38, c39, c40, c41, c42, c43, c44, c45, c46, c47, c48, c49, c50, c51, c52, c53, c54, c55, c56, c57, c58, c59, c60, c61, c62, c63, c64, c65, c66, c68, o67, wn67, lk1, lk3⟩ hf hd K hK
                dsimp only at hK
                have hd37 : L 37 = true := (by first | (refine hd ⟨37, .data⟩ ?_ rfl; simp; done) | (refine hd ⟨37, .guard⟩ ?_ rfl; simp; done) | (refine hd ⟨37, .phase⟩ ?_ rfl; simp; done) | (refine hd ⟨37, .chain⟩ ?_ rfl; simp; done))
                have e37 := c37 hd37
                rw [e37] at hK
                clear hd37
                clear hd
                go_simp
                refine hK _ _ ?_ (fun h => by cases h)
                intro s hs
                cases hs
                exact ⟨hB, c0, c1, c2, c3, c4, c5, c6, c7, c8, c9, c10, c11, c12, c13, c14, c15, c16, c17, c18, c19, c20, c21, c22, c23, c24, c25, c26, c27, c28, c29, c30, c31, c32, c33, c34, c35, c36, c37, (fun _ => rfl), c39, c40, c41, c42, c43, c44, c45, c46, c47, c48, c49, c50, c51, c52, c53, c54, c55, c56, c57, c58, c59, c60, c61, c62, c63, c64, c65, c66, c68, o67, wn67, lk1, lk3⟩
              case s39r1 =>
                rintro L u W ⟨hB, c0, c1, c2, c3, c4, c5, c6, c7, c8, c9, c10, c11, c12, c13, c14, c15, c16, c17, c18, c19, c20, c21, c22, c23, c24, c25, c26, c27, c28, c29, c30, c31, c32, c33, c34, c35, c36, c37, c38, c39, c40, c41, c42, c43, c44, c45, c46, c47, c48, c49, c50, c51, c52, c53, c54, c55, c56, c57, c58, c59, c60, c61, c62, c63, c64, c65, c66, c68, o67, wn67, lk1, lk3⟩ hf hd K hK
                dsimp only at hK
                have hd38 : L 38 = true := (by first | (refine hd ⟨38, .data⟩ ?_ rfl; simp; done) | (refine hd ⟨38, .guard⟩ ?_ rfl; simp; done) | (refine hd ⟨38, .phase⟩ ?_ rfl; simp; done) | (refine hd ⟨38, .chain⟩ ?_ rfl; simp; done))
                have e38 := c38 hd38
                rw [e38] at hK
                have t0 := lk3.cell (i := 7) rfl
                clear hd38
                clear hd
                go_simp
                refine hK _ _ ?_ (fun h => by cases h)
                intro s hs
                cases hs
                exact ⟨hB, c0, c1, c2, c3, c4, c5, c6, c7, c8, c9, c10, c11, c12, c13, c14, c15, c16, c17, c18, c19, c20, c21, c22, c23, c24, c25, c26, c27, c28, c29, c30, c31, c32, c33, c34, c35, c36, c37, c38, (fun _ => rfl), c40, c41, c42, c43, c44, c45, c46, c47, c48, c49, c50, c51, c52, c53, c54, c55, c56, c57, c58, c59, c60, c61, c62, c63, c64, c65, c66, c68, o67, wn67, lk1, lk3⟩
              case s40r1 =>
                rintro L u W ⟨hB, c0, c1, c2, c3, c4, c5, c6, c7, c8, c9, c10, c11, c12, c13, c14, c15, c16, c17, c18, c19, c20, c21, c22, c23, c24, c25, c26, c27, c28, c29, c30, c31, c32, c33, c34, c35, c36, c37, c38, c39, c40, c41, c42, c43, c44, c45, c46, c47, c48, c49, c50, c51, c52, c53, c54, c55, c56, c57, c58, c59, c60, c61, c62, c63, c64, c65, c66, c68, o67, wn67, lk1, lk3⟩ hf hd K hK
                dsimp only at hK
                have hd36 : L 36 = true := (by first | (refine hd ⟨36, .data⟩ ?_ rfl; simp; done) | (refine hd ⟨36, .guard⟩ ?_ rfl; simp; done) | (refine hd ⟨36, .phase⟩ ?_ rfl; simp; done) | (refine hd ⟨36, .chain⟩ ?_ rfl; simp; done))
                have hd39 : L 39 = true := (by first | (refine hd ⟨39, .data⟩ ?_ rfl; simp; done) | (refine hd ⟨39, .guard⟩ ?_ rfl; simp; done) | (refine hd ⟨39, .phase⟩ ?_ rfl; simp; done) | (refine hd ⟨39, .chain⟩ ?_ rfl; simp; done))
                have e36 := c36 hd36
                rw [e36] at hK
                have e39 := c39 hd39
                rw [e39] at hK
                clear hd36
                clear hd39
                clear hd
                go_simp
                refine hK _ _ ?_ (fun h => by cases h)
                intro s hs
                cases hs
                exact ⟨hB, c0, c1, c2, c3, c4, c5, c6, c7, c8, c9, c10, c11, c12, c13, c14, c15, c16, c17, c18, c19, c20, c21, c22, c23, c24, c25, c26, c27, c28, c29, c30, c31, c32, c33, c34, c35, c36, c37, c38, c39, (fun _ => rfl), c41, c42, c43, c44, c45, c46, c47, c48, c49, c50, c51, c52, c53, c54, c55, c56, c57, c58, c59, c60, c61, c62, c63, c64, c65, c66, c68, o67, wn67, lk1, lk3⟩
              case s41r1 =>
                rintro L u W ⟨hB, c0, c1, c2, c3, c4, c5, c6, c7, c8, c9, c10, c11, c12, c13, c14, c15, c16, c17, c18, c19, c20, c21, c22, c23, c24, c25, c26, c27, c28, c29, c30, c31, c32, c33, c34, c35, c36, c37, c38, c39, c40, c41, c42, c43, c44, c45, c46, c47, c48, c49, c50, c51, c52, c53, c54, c55, c56, c57, c58, c59, c60, c61, c62, c63, c64, c65, c66, c68, o67, wn67, lk1, lk3⟩ hf hd K hK
                dsimp only at hK
                have hd34 : L 34 = true := (by first | (refine hd ⟨34, .data⟩ ?_ rfl; simp; done) | (refine hd ⟨34, .guard⟩ ?_ rfl; simp; done) | (refine hd ⟨34, .phase⟩ ?_ rfl; simp; done) | (refine hd ⟨34, .chain⟩ ?_ rfl; simp; done))
                have hd40 : L 40 = true := (by first | (refine hd ⟨40, .data⟩ ?_ rfl; simp; done) | (refine hd ⟨40, .guard⟩ ?_ rfl; simp; done) | (refine hd ⟨40, .phase⟩ ?_ rfl; simp; done) | (refine hd ⟨40, .chain⟩ ?_ rfl; simp; done))
                have e34 := c34 hd34
                rw [e34] at hK
                have e40 := c40 hd40
                rw [e40] at hK
                clear hd34
                clear hd40
                clear hd
                go_simp
                refine hK _ _ ?_ (fun h => by cases h)
                intro s hs
                cases hs
                exact ⟨hB, c0, c1, c2, c3, c4, c5, c6, c7, c8, c9, c10, c11, c12, c13, c14, c15, c16, c17, c18, c19, c20, c21, c22, c23, c24, c25, c26, c27, c28, c29, c30, c31, c32, c33, c34, c35, c36, c37, c38, c39, c40, (fun _ => rfl), c42, c43, c44, c45, c46, c47, c48, c49, c50, c51, c52, c53, c54, c55, c56, c57, c58, c59, c60, c61, c62, c63, c64, c65, c66, c68, o67, wn67, lk1, lk3⟩
              case s42r1 =>
                rintro L u W ⟨hB, c0, c1, c2, c3, c4, c5, c6, c7, c8, c9, c10, c11, c12, c13, c14, c15, c16, c17, c18, c19, c20, c21, c22, c23, c24, c25, c26, c27, c28, c29, c30, c31, c32, c33, c34, c35, c36, c37, c38, c39, c40, c41, c42, c43, c44, c45, c46, c47, c48, c49, c50, c51, c52, c53, c54, c55, c56, c57, c58, c59, c60, c61, c62, c63, c64, c65, c66, c68, o67, wn67, lk1, lk3⟩ hf hd K hK
                dsimp only at hK
                clear hd
                go_simp
                refine hK _ _ ?_ (fun h => by cases h)
                intro s hs
                cases hs
                exact ⟨hB, c0, c1, c2, c3, c4, c5, c6, c7, c8, c9, c10, c11, c12, c13, c14, c15, c16, c17, c18, c19, c20, c21, c22, c23, c24, c25, c26, c27, c28, c29, c30, c31, c32, c33, c34, c35, c36, c37, c38, c39, c40, c41, (fun _ => rfl), c43, c44, c45, c46, c47, c48, c49, c50, c51, c52, c53, c54, c55, c56, c57, c58, c59, c60, c61, c62, c63, c64, c65, c66, c68, o67, wn67, lk1, lk3⟩
              case s43r1 =>
                rintro L u W ⟨hB, c0, c1, c2, c3, c4, c5, c6, c7, c8, c9, c10, c11, c12, c13, c14, c15, c16, c17, c18, c19, c20, c21, c22, c23, c24, c25, c26, c27, c28, c29, c30, c31, c32, c33, c34, c35, c36, c37, c38, c39, c40, c41, c42, c43, c44, c45, c46, c47, c48, c49, c50, c51, c52, c53, c54, c55, c56, c57, c58, c59, c60, c61, c62, c63, c64, c65, c66, c68, o67, wn67, lk1, lk3⟩ hf hd K hK
                dsimp only at hK
                have hd41 : L 41 = true := (by first | (refine hd ⟨41, .data⟩ ?_ rfl; simp; done) | (refine hd ⟨41, .guard⟩ ?_ rfl; simp; done) | (refine hd ⟨41, .phase⟩ ?_ rfl; simp; done) | (refine hd ⟨41, .chain⟩ ?_ rfl; simp; done))
                have hd42 : L 42 = true := (by first | (refine hd ⟨42, .data⟩ ?_ rfl; simp; done) | (refine hd ⟨42, .guard⟩ ?_ rfl; simp; done) | (refine hd ⟨42, .phase⟩ ?_ rfl; simp; done) | (refine hd ⟨42, .chain⟩ ?_ rfl; simp; done))
                have e41 := c41 hd41
                rw [e41] at hK
                have e42 := c42 hd42
                rw [e42] at hK
                clear hd41
                clear hd42
                clear hd
                go_simp
                go_wp2_with (go_at_call 26; ((with_reducible refine (G1.out _).mono ?_); rintro e w5 ⟨rfl, hb⟩))
                refine hK _ _ ?_ (fun h => by cases h)
                intro s hs
                cases hs
                exact ⟨hB.trans (hb.mono (Nat.le_trans hbound hB.size)), c0, c1, c2, c3, c4, c5, c6, c7, c8, c9, c10, c11, c12, c13, c14, c15, c16, c17, c18, c19, c20, c21, c22, c23, c24, c25, c26, c27, c28, c29, c30, c31, c32, c33, c34, c35, c36, c37, c38, c39, c40, c41, c42, (fun _ => rfl), c44, c45, c46, c47, c48, c49, c50, c51, c52, c53, c54, c55, c56, c57, c58, c59, c60, c61, c62, c63, c64, c65, c66, c68, (fun h => (o67 h).keep hb), (fun h => (wn67 h).keep hb), (lk1.keep hb), (lk3.keep hb)⟩
              case s44r1 =>
                rintro L u W ⟨hB, c0, c1, c2, c3, c4, c5, c6, c7, c8, c9, c10, c11, c12, c13, c14, c15, c16, c17, c18, c19, c20, c21, c22, c23, c24, c25, c26, c27, c28, c29, c30, c31, c32, c33, c34, c35, c36, c37, c38, c39, c40, c41, c42, c43, c44, c45, c46, c47, c48, c49, c50, c51, c52, c53, c54, c55, c56, c57, c58, c59, c60, c61, c62, c63, c64, c65, c66, c68, o67, wn67, lk1, lk3⟩ hf hd K hK
                dsimp only at hK
                clear hd
                go_simp
                refine hK _ _ ?_ (fun h => by cases h)
                intro s hs
                cases hs
                exact ⟨hB, c0, c1, c2, c3, c4, c5, c6, c7, c8, c9, c10, c11, c12, c13, c14, c15, c16, c17, c18, c19, c20, c21, c22, c23, c24, c25, c26, c27, c28, c29, c30, c31, c32, c33, c34, c35, c36, c37, c38, c39, c40, c41, c42, c43, (fun _ => rfl), c45, c46, c47, c48, c49, c50, c51, c52, c53, c54, c55, c56, c57, c58, c59, c60, c61, c62, c63, c64, c65, c66, c68, o67, wn67, lk1, lk3⟩
              case s45r1 =>
                rintro L u W ⟨hB, c0, c1, c2, c3, c4, c5, c6, c7, c8, c9, c10, c11, c12, c13, c14, c15, c16, c17, c18, c19, c20, c21, c22, c23, c24, c25, c26, c27, c28, c29, c30, c31, c32, c33, c34, c35, c36, c37, c38, c39, c40, c41, c42, c43, c44, c45, c46, c47, c48, c49, c50, c51, c52, c53, c54, c55, c56, c57, c58, c59, c60, c61, c62, c63, c64, c65, c66, c68, o67, wn67, lk1, lk3⟩ hf hd K hK
                dsimp only at hK
                have hd44 : L 44 = true := (by first | (refine hd ⟨44, .data⟩ ?_ rfl; simp; done) | (refine hd ⟨44, .guard⟩ ?_ rfl; simp; done) | (refine hd ⟨44, .phase⟩ ?_ rfl; simp; done) | (refine hd ⟨44, .chain⟩ ?_ rfl; simp; done))
                have e44 := c44 hd44
                rw [e44] at hK
                have t0 := lk1.cell (i := 0) rfl
                clear hd44
                clear hd
                go_simp
                refine hK _ _ ?_ (fun h => by cases h)
                intro s hs
                cases hs
                exact ⟨hB, c0, c1, c2, c3, c4, c5, c6, c7, c8, c9, c10, c11, c12, c13, c14, c15, c16, c17, c18, c19, c20, c21, c22, c23, c24, c25, c26, c27, c28, c29, c30, c31, c32, c33, c34, c35, c36, c37, c38, c39, c40, c41, c42, c43, c44, (fun _ => rfl), c46, c47, c48, c49, c50, c51, c52, c53, c54, c55, c56, c57, c58, c59, c60, c61, c62, c63, c64, c65, c66, c68, o67, wn67, lk1, lk3⟩
              case s46r1 =>
                rintro L u W ⟨hB, c0, c1, c2, c3, c4, c5, c6, c7, c8, c9, c10, c11, c12, c13, c14, c15, c16, c17, c18, c19, c20, c21, c22, c23, c24, c25, c26, c27, c28, c29, c30, c31, c32, c33, c34, c35, c36, c37, c38, c39, c40, c41, c42, c43, c44, c45, c46, c47, c48, c49, c50, c51, c52, c53, c54, c55, c56, c57, c58, c59, c60, c61, c62, c63, c64, c65, c66, c68, o67, wn67, lk1, lk3⟩ hf hd K hK
                dsimp only at hK
                clear hd
                go_simp
                refine hK _ _ ?_ (fun h => by cases h)
                intro s hs
                cases hs
                exact ⟨hB, c0, c1, c2, c3, c4, c5, c6, c7, c8, c9, c10, c11, c12, c13, c14, c15, c16, c17, c18, c19, c20, c21, c22, c23, c24, c25, c26, c27, c28, c29, c30, c31, c32, c33, c34, c35, c36, c37, c38, c39, c40, c41, c42, c43, c44, c45, (fun _ => rfl), c47, c48, c49, c50, c51, c52, c53, c54, c55, c56, c57, c58, c59, c60, c61, c62, c63, c64, c65, c66, c68, o67, wn67, lk1, lk3⟩
              case s47r1 =>
                rintro L u W ⟨hB, c0, c1, c2, c3, c4, c5, c6, c7, c8, c9, c10, c11, c12, c13, c14, c15, c16, c17, c18, c19, c20, c21, c22, c23, c24, c25, c26, c27, c28, c29, c30, c31, c32, c33, c34, c35, c36, c37, c38, c39, c40, c41, c42, c43, c44, c45, c46, c47, c48, c49, c50, c51, c52, c53, c54, c55, c56, c57, c58, c59, c60, c61, c62, c63, c64, c65, c66, c68, o67, wn67, lk1, lk3⟩ hf hd K hK
                dsimp only at hK
                have hd46 : L 46 = true := (by first | (refine hd ⟨46, .data⟩ ?_ rfl; simp; done) | (refine hd ⟨46, .guard⟩ ?_ rfl; simp; done) | (refine hd ⟨46, .phase⟩ ?_ rfl; simp; done) | (refine hd ⟨46, .chain⟩ ?_ rfl; simp; done))
                have e46 := c46 hd46
                rw [e46] at hK
                clear hd46
                clear hd
                go_simp
                refine hK _ _ ?_ (fun h => by cases h)
                intro s hs
                cases hs
                exact ⟨hB, c0, c1, c2, c3, c4, c5, c6, c7, c8, c9, c10, c11, c12, c13, c14, c15, c16, c17, c18, c19, c20, c21, c22, c23, c24, c25, c26, c27, c28, c29, c30, c31, c32, c33, c34, c35, c36, c37, c38, c39, c40, c41, c42, c43, c44, c45, c46, (fun _ => rfl), c48, c49, c50, c51, c52, c53, c54, c55, c56, c57, c58, c59, c60, c61, c62, c63, c64, c65, c66, c68, o67, wn67, lk1, lk3⟩
              case s48r1 =>
                rintro L u W ⟨hB, c0, c1, c2, c3, c4, c5, c6, c7, c8, c9, c10, c11, c12, c13, c14, c15, c16, c17, c18, c19, c20, c21, c22, c23, c24, c25, c26, c27, c28, c29, c30, c31, c32, c33, c34, c35, c36, c37, c38, c39, c40, c41, c42, c43, c44, c45, c46, c47, c48, c49, c50, c51, c52, c53, c54, c55, c56, c57, c58, c59, c60, c61, c62, c63, c64, c65, c66, c68, o67, wn67, lk1, lk3⟩ hf hd K hK
                dsimp only at hK
                have hd47 : L 47 = true := (by first | (refine hd ⟨47, .data⟩ ?_ rfl; simp; done) | (refine hd ⟨47, .guard⟩ ?_ rfl; simp; done) | (refine hd ⟨47, .phase⟩ ?_ rfl; simp; done) | (refine hd ⟨47, .chain⟩ ?_ rfl; simp; done))
                have e47 := c47 hd47
                rw [e47] at hK
                have t0 := lk3.cell (i := 2) rfl
                clear hd47
                clear hd
                go_simp
                refine hK _ _ ?_ (fun h => by cases h)
                intro s hs
                cases hs
                exact ⟨hB, c0, c1, c2, c3, c4, c5, c6, c7, c8, c9, c10, c11, c12, c13, c14, c15, c16, c17, c18, c19, c20, c21, c22, c23, c24, c25, c26, c27, c28, c29, c30, c31, c32, c33, c34, c35, c36, c37, c38, c39, c40, c41, c42, c43, c44, c45, c46, c47, (fun _ => rfl), c49, c50, c51, c52, c53, c54, c55, c56, c57, c58, c59, c60, c61, c62, c63, c64, c65, c66, c68, o67, wn67, lk1, lk3⟩
              case s49r1 =>
                rintro L u W ⟨hB, c0, c1, c2, c3, c4, c5, c6, c7, c8, c9, c10, c11, c12, c13, c14, c15, c16, c17, c18, c19, c20, c21, c22, c23, c24, c25, c26, c27, c28, c29, c30, c31, c32, c33, c34, c35, c36, c37, c38, c39, c40, c41, c42, c43, c44, c45, c46, c47, c48, c49, c50, c51, c52, c53, c54, c55, c56, c57, c58, c59, c60, c61, c62, c63, c64, c65, c66, c68, o67, wn67, lk1, lk3⟩ hf hd K hK
                dsimp only at hK
                have hd45 : L 45 = true := (by first | (refine hd ⟨45, .data⟩ ?_ rfl; simp; done) | (refine hd ⟨45, .guard⟩ ?_ rfl; simp; done) | (refine hd ⟨45, .phase⟩ ?_ rfl; simp; done) | (refine hd ⟨45, .chain⟩ ?_ rfl; simp; done))
                have hd48 : L 48 = true := (by first | (refine hd ⟨48, .data⟩ ?_ rfl; simp; done) | (refine hd ⟨48, .guard⟩ ?_ rfl; simp; done) | (refine hd ⟨48, .phase⟩ ?_ rfl; simp; done) | (refine hd ⟨48, .chain⟩ ?_ rfl; simp; done))
                have e45 := c45 hd45
                rw [e45] at hK
                have e48 := c48 hd48
                rw [e48] at hK
                clear hd45
                clear hd48
                clear hd
                go_simp
                refine hK _ _ ?_ (fun h => by cases h)
                intro s hs
                cases hs
                exact ⟨hB, c0, c1, c2, c3, c4, c5, c6, c7, c8, c9, c10, c11, c12, c13, c14, c15, c16, c17, c18, c19, c20, c21, c22, c23, c24, c25, c26, c27, c28, c29, c30, c31, c32, c33, c34, c35, c36, c37, c38, c39, c40, c41, c42, c43, c44, c45, c46, c47, c48, (fun _ => rfl), c50, c51, c52, c53, c54, c55, c56, c57, c58, c59, c60, c61, c62, c63, c64, c65, c66, c68, o67, wn67, lk1, lk3⟩
              case s50r1 =>
                rintro L u W ⟨hB, c0, c1, c2, c3, c4, c5, c6, c7, c8, c9, c10, c11, c12, c13, c14, c15, c16, c17, c18, c19, c20, c21, c22, c23, c24, c25, c26, c27, c28, c29, c30, c31, c32, c33, c34, c35, c36, c37, c38, c39, c40, c41, c42, c43, c44, c45, c46, c47, c48, c49, c50, c51, c52, c53, c54, c55, c56, c57, c58, c59, c60, c61, c62, c63, c64, c65, c66, c68, o67, wn67, lk1, lk3⟩ hf hd K hK
                dsimp only at hK
                clear hd
                go_simp
                refine hK _ _ ?_ (fun h => by cases h)
                intro s hs
                cases hs
                exact ⟨hB, c0, c1, c2, c3, c4, c5, c6, c7, c8, c9, c10, c11, c12, c13, c14, c15, c16, c17, c18, c19, c20, c21, c22, c23, c24, c25, c26, c27, c28, c29, c30, c31, c32, c33, c34, c35, c36, c37, c38, c39, c40, c41, c42, c43, c44, c45, c46, c47, c48, c49, (fun _ => rfl), c51, c52, c53, c54, c55, c56, c57, c58, c59, c60, c61, c62, c63, c64, c65, c66, c68, o67, wn67, lk1, lk3⟩
              case s51r1 =>
                rintro L u W ⟨hB, c0, c1, c2, c3, c4, c5, c6, c7, c8, c9, c10, c11, c12, c13, c14, c15, c16, c17, c18, c19, c20, c21, c22, c23, c24, c25, c26, c27, c28, c29, c30, c31, c32, c33, c34, c35, c36, c37, c38, c39, c40, c41, c42, c43, c44, c45, c46, c47, c48, c49, c50, c51, c52, c53, c54, c55, c56, c57, c58, c59, c60, c61, c62, c63, c64, c65, c66, c68, o67, wn67, lk1, lk3⟩ hf hd K hK
                dsimp only at hK
                have hd50 : L 50 = true := (by first | (refine hd ⟨50, .data⟩ ?_ rfl; simp; done) | (refine hd ⟨50, .guard⟩ ?_ rfl; simp; done) | (refine hd ⟨50, .phase⟩ ?_ rfl; simp; done) | (refine hd ⟨50, .chain⟩ ?_ rfl; simp; done))
                have e50 := c50 hd50
                rw [e50] at hK
                have t0 := lk1.cell (i := 1) rfl
                clear hd50
                clear hd
                go_simp
                refine hK _ _ ?_ (fun h => by cases h)
                intro s hs
                cases hs
                exact ⟨hB, c0, c1, c2, c3, c4, c5, c6, c7, c8, c9, c10, c11, c12, c13, c14, c15, c16, c17, c18, c19, c20, c21, c22, c23, c24, c25, c26, c27, c28, c29, c30, c31, c32, c33, c34, c35, c36, c37, c38, c39, c40, c41, c42, c43, c44, c45, c46, c47, c48, c49, c50, (fun _ => rfl), c52, c53, c54, c55, c56, c57, c58, c59, c60, c61, c62, c63, c64, c65, c66, c68, o67, wn67, lk1, lk3⟩
              case s52r1 =>
                rintro L u W ⟨hB, c0, c1, c2, c3, c4, c5, c6, c7, c8, c9, c10, c11, c12, c13, c14, c15, c16, c17, c18, c19, c20, c21, c22, c23, c24, c25, c26, c27, c28, c29, c30, c31, c32, c33, c34, c35, c36, c37, c38, c39, c40, c41, c42, c43, c44, c45, c46, c47, c48, c49, c50, c51, c52, c53, c54, c55, c56, c57, c58, c59, c60, c61, c62, c63, c64, c65, c66, c68, o67, wn67, lk1, lk3⟩ hf hd K hK
                dsimp only at hK
                clear hd
                go_simp
                refine hK _ _ ?_ (fun h => by cases h)
                intro s hs
                cases hs
                exact ⟨hB, c0, c1, c2, c3, c4, c5, c6, c7, c8, c9, c10, c11, c12, c13, c14, c15, c16, c17, c18, c19, c20, c21, c22, c23, c24, c25, c26, c27, c28, c29, c30, c31, c32, c33, c34, c35, c36, c37, c38, c39, c40, c41, c42, c43, c44, c45, c46, c47, c48, c49, c50, c51, (fun _ => rfl), c53, c54, c55, c56, c57, c58, c59, c60, c61, c62, c63, c64, c65, c66, c68, o67, wn67, lk1, lk3⟩
              case s53r1 =>
                rintro L u W ⟨hB, c0, c1, c2, c3, c4, c5, c6, c7, c8, c9, c10, c11, c12, c13, c14, c15, c16, c17, c18, c19, c20, c21, c22, c23, c24, c25, c26, c27, c28, c29, c30, c31, c32, c33, c34, c35, c36, c37, c38, c39, c40, c41, c42, c43, c44, c45, c46, c47, c48, c49, c50, c51, c52, c53, c54, c55, c56, c57, c58, c59, c60, c61, c62, c63, c64, c65, c66, c68, o67, wn67, lk1, lk3⟩ hf hd K hK
                dsimp only at hK
                have hd52 : L 52 = true := (by first | (refine hd ⟨52, .data⟩ ?_ rfl; simp; done) | (refine hd ⟨52, .guard⟩ ?_ rfl; simp; done) | (refine hd ⟨52, .phase⟩ ?_ rfl; simp; done) | (refine hd ⟨52, .chain⟩ ?_ rfl; simp; done))
                have e52 := c52 hd52
                rw [e52] at hK
                clear hd52
                clear hd
                go_simp
                refine hK _ _ ?_ (fun h => by cases h)
                intro s hs
                cases hs
                exact ⟨hB, c0, c1, c2, c3, c4, c5, c6, c7, c8, c9, c10, c11, c12, c13, c14, c15, c16, c17, c18, c19, c20, c21, c22, c23, c24, c25, c26, c27, c28, c29, c30, c31, c32, c33, c34, c35, c36, c37, c38, c39, c40, c41, c42, c43, c44, c45, c46, c47, c48, c49, c50, c51, c52, (fun _ => rfl), c54, c55, c56, c57, c58, c59, c60, c61, c62, c63, c64, c65, c66, c68, o67, wn67, lk1, lk3⟩
              case s54r1 =>
                rintro L u W ⟨hB, c0, c1, c2, c3, c4, c5, c6, c7, c8, c9, c10, c11, c12, c13, c14, c15, c16, c17, c18, c19, c20, c21, c22, c23, c24, c25, c26, c27, c28, c29, c30, c31, c32, c33, c34, c35, c36, c37, c38, c39, c40, c41, c42, c43, c44, c45, c46, c47, c48, c49, c50, c51, c52, c53, c54, c55, c56, c57, c58, c59, c60, c61, c62, c63, c64, c65, c66, c68, o67, wn67, lk1, lk3⟩ hf hd K hK
                dsimp only at hK
                have hd53 : L 53 = true := (by first | (refine hd ⟨53, .data⟩ ?_ rfl; simp; done) | (refine hd ⟨53, .guard⟩ ?_ rfl; simp; done) | (refine hd ⟨53, .phase⟩ ?_ rfl; simp; done) | (refine hd ⟨53, .chain⟩ ?_ rfl; simp; done))
                have e53 := c53 hd53
                rw [e53] at hK
                have t0 := lk3.cell (i := 5) rfl
                clear hd53
                clear hd
                go_simp
                refine hK _ _ ?_ (fun h => by cases h)
                intro s hs
                cases hs
                exact ⟨hB, c0, c1, c2, c3, c4, c5, c6, c7, c8, c9, c10, c11, c12, c13, c14, c15, c16, c17, c18, c19, c20, c21, c22, c23, c24, c25, c26, c27, c28, c29, c30, c31, c32, c33, c34, c35, c36, c37, c38, c39, c40, c41, c42, c43, c44, c45, c46, c47, c48, c49, c50, c51, c52, c53, (fun _ => rfl), c55, c56, c57, c58, c59, c60, c61, c62, c63, c64, c65, c66, c68, o67, wn67, lk1, lk3⟩
              case s55r1 =>
                rintro L u W ⟨hB, c0, c1, c2, c3, c4, c5, c6, c7, c8, c9, c10, c11, c12, c13, c14, c15, c16, c17, c18, c19, c20, c21, c22, c23, c24, c25, c26, c27, c28, c29, c30, c31, c32, c33, c34, c35, c36, c37, c38, c39, c40, c41, c42, c43, c44, c45, c46, c47, c48, c49, c50, c51, c52, c53, c54, c55, c56, c57, c58, c59, c60, c61, c62, c63, c64, c65, c66, c68, o67, wn67, lk1, lk3⟩ hf hd K hK
                dsimp only at hK
                have hd51 : L 51 = true := (by first | (refine hd ⟨51, .data⟩ ?_ rfl; simp; done) | (refine hd ⟨51, .guard⟩ ?_ rfl; simp; done) | (refine hd ⟨51, .phase⟩ ?_ rfl; simp; done) | (refine hd ⟨51, .chain⟩ ?_ rfl; simp; done))
                have hd54 : L 54 = true := (by first | (refine hd ⟨54, .data⟩ ?_ rfl; simp; done) | (refine hd ⟨54, .guard⟩ ?_ rfl; simp; done) | (refine hd ⟨54, .phase⟩ ?_ rfl; simp; done) | (refine hd ⟨54, .chain⟩ ?_ rfl; simp; done))
                have e51 := c51 hd51
                rw [e51] at hK
                have e54 := c54 hd54
                rw [e54] at hK
                clear hd51
                clear hd54
                clear hd
                go_simp
                refine hK _ _ ?_ (fun h => by cases h)
                intro s hs
                cases hs
                exact ⟨hB, c0, c1, c2, c3, c4, c5, c6, c7, c8, c9, c10, c11, c12, c13, c14, c15, c16, c17, c18, c19, c20, c21, c22, c23, c24, c25, c26, c27, c28, c29, c30, c31, c32, c33, c34, c35, c36, c37, c38, c39, c40, c41, c42, c43, c44, c45, c46, c47, c48, c49, c50, c51, c52, c53, c54, (fun _ => rfl), c56, c57, c58, c59, c60, c61, c62, c63, c64, c65, c66, c68, o67, wn67, lk1, lk3⟩
              case s56r1 =>
                rintro L u W ⟨hB, c0, c1, c2, c3, c4, c5, c6, c7, c8, c9, c10, c11, c12, c13, c14, c15, c16, c17, c18, c19, c20, c21, c22, c23, c24, c25, c26, c27, c28, c29, c30, c31, c32, c33, c34, c35, c36, c37, c38, c39, c40, c41, c42, c43, c44, c45, c46, c47, c48, c49, c50, c51, c52, c53, c54, c55, c56, c57, c58, c59, c60, c61, c62, c63, c64, c65, c66, c68, o67, wn67, lk1, lk3⟩ hf hd K hK
                dsimp only at hK
                have hd49 : L 49 = true := (by first | (refine hd ⟨49, .data⟩ ?_ rfl; simp; done) | (refine hd ⟨49, .guard⟩ ?_ rfl; simp; done) | (refine hd ⟨49, .phase⟩ ?_ rfl; simp; done) | (refine hd ⟨49, .chain⟩ ?_ rfl; simp; done))
                have hd55 : L 55 = true := (by first | (refine hd ⟨55, .data⟩ ?_ rfl; simp; done) | (refine hd ⟨55, .guard⟩ ?_ rfl; simp; done) | (refine hd ⟨55, .phase⟩ ?_ rfl; simp; done) | (refine hd ⟨55, .chain⟩ ?_ rfl; simp; done))
                have e49 := c49 hd49
                rw [e49] at hK
                have e55 := c55 hd55
                rw [e55] at hK
                clear hd49
                clear hd55
                clear hd
                go_simp
                refine hK _ _ ?_ (fun h => by cases h)
                intro s hs
                cases hs
                exact ⟨hB, c0, c1, c2, c3, c4, c5, c6, c7, c8, c9, c10, c11, c12, c13, c14, c15, c16, c17, c18, c19, c20, c21, c22, c23, c24, c25, c26, c27, c28, c29, c30, c31, c32, c33, c34, c35, c36, c37, c38, c39, c40, c41, c42, c43, c44, c45, c46, c47, c48, c49, c50, c51, c52, c53, c54, c55, (fun _ => rfl), c57, c58, c59, c60, c61, c62, c63, c64, c65, c66, c68, o67, wn67, lk1, lk3⟩
              case s57r1 =>
                rintro L u W ⟨hB, c0, c1, c2, c3, c4, c5, c6, c7, c8, c9, c10, c11, c12, c13, c14, c15, c16, c17, c18, c19, c20, c21, c22, c23, c24, c25, c26, c27, c28, c29, c30, c31, c32, c33, c34, c35, c36, c37, c38, c39, c40, c41, c42, c43, c44, c45, c46, c47, c48, c49, c50, c51, c52, c53, c54, c55, c56, c57, c58, c59, c60, c61, c62, c63, c64, c65, c66, c68, o67, wn67, lk1, lk3⟩ hf hd K hK
                dsimp only at hK
                clear hd
                go_simp
                refine hK _ _ ?_ (fun h => by cases h)
                intro s hs
                cases hs
                exact ⟨hB, c0, c1, c2, c3, c4, c5, c6, c7, c8, c9, c10, c11, c12, c13, c14, c15, c16, c17, c18, c19, c20, c21, c22, c23, c24, c25, c26, c27, c28, c29, c30, c31, c32, c33, c34, c35, c36, c37, c38, c39, c40, c41, c42, c43, c44, c45, c46, c47, c48, c49, c50, c51, c52, c53, c54, c55, c56, (fun _ => rfl), c58, c59, c60, c61, c62, c63, c64, c65, c66, c68, o67, wn67, lk1, lk3⟩
              case s58r1 =>
                rintro L u W ⟨hB, c0, c1, c2, c3, c4, c5, c6, c7, c8, c9, c10, c11, c12, c13, c14, c15, c16, c17, c18, c19, c20, c21, c22, c23, c24, c25, c26, c27, c28, c29, c30, c31, c32, c33, c34, c35, c36, c37, c38, c39, c40, c41, c42, c43, c44, c45, c46, c47, c48, c49, c50, c51, c52, c53, c54, c55, c56, c57, c58, c59, c60, c61, c62, c63, c64, c65, c66, c68, o67, wn67, lk1, lk3⟩ hf hd K hK
                dsimp only at hK
                have hd57 : L 57 = true := (by first | (refine hd ⟨57, .data⟩ ?_ rfl; simp; done) | (refine hd ⟨57, .guard⟩ ?_ rfl; simp; done) | (refine hd ⟨57, .phase⟩ ?_ rfl; simp; done) | (refine hd ⟨57, .chain⟩ ?_ rfl; simp; done))
                have e57 := c57 hd57
                rw [e57] at hK
                have t0 := lk1.cell (i := 2) rfl
                clear hd57
                clear hd
                go_simp
                refine hK _ _ ?_ (fun h => by cases h)
                intro s hs
                cases hs
                exact ⟨hB, c0, c1, c2, c3, c4, c5, c6, c7, c8, c9, c10, c11, c12, c13, c14, c15, c16, c17, c18, c19, c20, c21, c22, c23, c24, c25, c26, c27, c28, c29, c30, c31, c32, c33, c34, c35, c36, c37, c38, c39, c40, c41, c42, c43, c44, c45, c46, c47, c48, c49, c50, c51, c52, c53, c54, c55, c56, c57, (fun _ => rfl), c59, c60, c61, c62, c63, c64, c65, c66, c68, o67, wn67, lk1, lk3⟩
              case s59r1 =>
                rintro L u W ⟨hB, c0, c1, c2, c3, c4, c5, c6, c7, c8, c9, c10, c11, c12, c13, c14, c15, c16, c17, c18, c19, c20, c21, c22, c23, c24, c25, c26, c27, c28, c29, c30, c31, c32, c33, c34, c35, c36, c37, c38, c39, c40, c41, c42, c43, c44, c45, c46, c47, c48, c49, c50, c51, c52, c53, c54, c55, c56, c57, c58, c59, c60, c61, c62, c63, c64, c65, c66, c68, o67, wn67, lk1, lk3⟩ hf hd K hK
                dsimp only at hK
                clear hd
                go_simp
                refine hK _ _ ?_ (fun h => by cases h)
                intro s hs
                cases hs
                exact ⟨hB, c0, c1, c2, c3, c4, c5, c6, c7, c8, c9, c10, c11, c12, c13, c14, c15, c16, c17, c18, c19, c20, c21, c22, c23, c24, c25, c26, c27, c28, c29, c30, c31, c32, c33, c34, c35, c36, c37, c38, c39, c40, c41, c42, c43, c44, c45, c46, c47, c48, c49, c50, c51, c52, c53, c54, c55, c56, c57, c58, (fun _ => rfl), c60, c61, c62, c63, c64, c65, c66, c68, o67, wn67, lk1, lk3⟩
              case s60r1 =>
                rintro L u W ⟨hB, c0, c1, c2, c3, c4, c5, c6, c7, c8, c9, c10, c11, c12, c13, c14, c15, c16, c17, c18, c19, c20, c21, c22, c23, c24, c25, c26, c27, c28, c29, c30, c31, c32, c33, c34, c35, c36, c37, c38, c39, c40, c41, c42, c43, c44, c45, c46, c47, c48, c49, c50, c51, c52, c53, c54, c55, c56, c57, c58, c59, c60, c61, c62, c63, c64, c65, c66, c68, o67, wn67, lk1, lk3⟩ hf hd K hK
                dsimp only at hK
                have hd59 : L 59 = true := (by first | (refine hd ⟨59, .data⟩ ?_ rfl; simp; done) | (refine hd ⟨59, .guard⟩ ?_ rfl; simp; done) | (refine hd ⟨59, .phase⟩ ?_ rfl; simp; done) | (refine hd ⟨59, .chain⟩ ?_ rfl; simp; done))
                have e59 := c59 hd59
                rw [e59] at hK
                clear hd59
                clear hd
                go_simp
                refine hK _ _ ?_ (fun h => by cases h)
                intro s hs
                cases hs
                exact ⟨hB, c0, c1, c2, c3, c4, c5, c6, c7, c8, c9, c10, c11, c12, c13, c14, c15, c16, c17, c18, c19, c20, c21, c22, c23, c24, c25, c26, c27, c28, c29, c30, c31, c32, c33, c34, c35, c36, c37, c38, c39, c40, c41, c42, c43, c44, c45, c46, c47, c48, c49, c50, c51, c52, c53, c54, c55, c56, c57, c58, c59, (fun _ => rfl), c61, c62, c63, c64, c65, c66, c68, o67, wn67, lk1, lk3⟩
              case s61r1 =>
                rintro L u W ⟨hB, c0, c1, c2, c3, c4, c5, c6, c7, c8, c9, c10, c11, c12, c13, c14, c15, c16, c17, c18, c19, c20, c21, c22, c23, c24, c25, c26, c27, c28, c29, c30, c31, c32, c33, c34, c35, c36, c37, c38, c39, c40, c41, c42, c43, c44, c45, c46, c47, c48, c49, c50, c51, c52, c53, c54, c55, c56, c57, c58, c59, c60, c61, c62, c63, c64, c65, c66, c68, o67, wn67, lk1, lk3⟩ hf hd K hK
                dsimp only at hK
                have hd60 : L 60 = true := (by first | (refine hd ⟨60, .data⟩ ?_ rfl; simp; done) | (refine hd ⟨60, .guard⟩ ?_ rfl; simp; done) | (refine hd ⟨60, .phase⟩ ?_ rfl; simp; done) | (refine hd ⟨60, .chain⟩ ?_ rfl; simp; done))
                have e60 := c60 hd60
                rw [e60] at hK
                have t0 := lk3.cell (i := 8) rfl
                clear hd60
                clear hd
                go_simp
                refine hK _ _ ?_ (fun h => by cases h)
                intro s hs
                cases hs
                exact ⟨hB, c0, c1, c2, c3, c4, c5, c6, c7, c8, c9, c10, c11, c12, c13, c14, c15, c16, c17, c18, c19, c20, c21, c22, c23, c24, c25, c26, c27, c28, c29, c30, c31, c32, c33, c34, c35, c36, c37, c38, c39, c40, c41, c42, c43, c44, c45, c46, c47, c48, c49, c50, c51, c52, c53, c54, c55, c56, c57, c58, c59, c60, (fun _ => rfl), c62, c63, c64, c65, c66, c68, o67, wn67, lk1, lk3⟩
              case s62r1 =>
                rintro L u W ⟨hB, c0, c1, c2, c3, c4, c5, c6, c7, c8, c9, c10, c11, c12, c13, c14, c15, c16, c17, c18, c19, c20, c21, c22, c23, c24, c25, c26, c27, c28, c29, c30, c31, c32, c33, c34, c35, c36, c37, c38, c39, c40, c41, c42, c43, c44, c45, c46, c47, c48, c49, c50, c51, c52, c53, c54, c55, c56, c57, c58, c59, c60, c61, c62, c63, c64, c65, c66, c68, o67, wn67, lk1, lk3⟩ hf hd K hK
                dsimp only at hK
                have hd58 : L 58 = true := (by first | (refine hd ⟨58, .data⟩ ?_ rfl; simp; done) | (refine hd ⟨58, .guard⟩ ?_ rfl; simp; done) | (refine hd ⟨58, .phase⟩ ?_ rfl; simp; done) | (refine hd ⟨58, .chain⟩ ?_ rfl; simp; done))
                have hd61 : L 61 = true := (by first | (refine hd ⟨61, .data⟩ ?_ rfl; simp; done) | (refine hd ⟨61, .guard⟩ ?_ rfl; simp; done) | (refine hd ⟨61, .phase⟩ ?_ rfl; simp; done) | (refine hd ⟨61, .chain⟩ ?_ rfl; simp; done))
                have e58 := c58 hd58
                rw [e58] at hK
                have e61 := c61 hd61
                rw [e61] at hK
                clear hd58
                clear hd61
                clear hd
                go_simp
                refine hK _ _ ?_ (fun h => by cases h)
                intro s hs
                cases hs
                exact ⟨hB, c0, c1, c2, c3, c4, c5, c6, c7, c8, c9, c10, c11, c12, c13, c14, c15, c16, c17, c18, c19, c20, c21, c22, c23, c24, c25, c26, c27, c28, c29, c30, c31, c32, c33, c34, c35, c36, c37, c38, c39, c40, c41, c42, c43, c44, c45, c46, c47, c48, c49, c50, c51, c52, c53, c54, c55, c56, c57, c58, c59, c60, c61, (fun _ => rfl), c63, c64, c65, c66, c68, o67, wn67, lk1, lk3⟩
              case s63r1 =>
                rintro L u W ⟨hB, c0, c1, c2, c3, c4, c5, c6, c7, c8, c9, c10, c11, c12, c13, c14, c15, c16, c17, c18, c19, c20, c21, c22, c23, c24, c25, c26, c27, c28, c29, c30, c31, c32, c33, c34, c35, c36, c37, c38, c39, c40, c41, c42, c43, c44, c45, c46, c47, c48, c49, c50, c51, c52, c53, c54, c55, c56, c57, c58, c59, c60, c61, c62, c63, c64, c65, c66, c68, o67, wn67, lk1, lk3⟩ hf hd K hK
                dsimp only at hK
                have hd56 : L 56 = true := (by first | (refine hd ⟨56, .data⟩ ?_ rfl; simp; done) | (refine hd ⟨56, .guard⟩ ?_ rfl; simp; done) | (refine hd ⟨56, .phase⟩ ?_ rfl; simp; done) | (refine hd ⟨56, .chain⟩ ?_ rfl; simp; done))
                have hd62 : L 62 = true := (by first | (refine hd ⟨62, .data⟩ ?_ rfl; simp; done) | (refine hd ⟨62, .guard⟩ ?_ rfl; simp; done) | (refine hd ⟨62, .phase⟩ ?_ rfl; simp; done) | (refine hd ⟨62, .chain⟩ ?_ rfl; simp; done))
                have e56 := c56 hd56
                rw [e56] at hK
                have e62 := c62 hd62
                rw [e62] at hK
                clear hd56
                clear hd62
                clear hd
                go_simp
                refine hK _ _ ?_ (fun h => by cases h)
                intro s hs
                cases hs
                exact ⟨hB, c0, c1, c2, c3, c4, c5, c6, c7, c8, c9, c10, c11, c12, c13, c14, c15, c16, c17, c18, c19, c20, c21, c22, c23, c24, c25, c26, c27, c28, c29, c30, c31, c32, c33, c34, c35, c36, c37, c38, c39, c40, c41, c42, c43, c44, c45, c46, c47, c48, c49, c50, c51, c52, c53, c54, c55, c56, c57, c58, c59, c60, c61, c62, (fun _ => rfl), c64, c65, c66, c68, o67, wn67, lk1, lk3⟩
              case s64r1 =>
                rintro L u W ⟨hB, c0, c1, c2, c3, c4, c5, c6, c7, c8, c9, c10, c11, c12, c13, c14, c15, c16, c17, c18, c19, c20, c21, c22, c23, c24, c25, c26, c27, c28, c29, c30, c31, c32, c33, c34, c35, c36, c37, c38, c39, c40, c41, c42, c43, c44, c45, c46, c47, c48, c49, c50, c51, c52, c53, c54, c55, c56, c57, c58, c59, c60, c61, c62, c63, c64, c65, c66, c68, o67, wn67, lk1, lk3⟩ hf hd K hK
                dsimp only at hK
                clear hd
                go_simp
                refine hK _ _ ?_ (fun h => by cases h)
                intro s hs
                cases hs
                exact ⟨hB, c0, c1, c2, c3, c4, c5, c6, c7, c8, c9, c10, c11, c12, c13, c14, c15, c16, c17, c18, c19, c20, c21, c22, c23, c24, c25, c26, c27, c28, c29, c30, c31, c32, c33, c34, c35, c36, c37, c38, c39, c40, c41, c42, c43, c44, c45, c46, c47, c48, c49, c50, c51, c52, c53, c54, c55, c56, c57, c58, c59, c60, c61, c62, c63, (fun _ => rfl), c65, c66, c68, o67, wn67, lk1, lk3⟩
              case s65r1 =>
                rintro L u W ⟨hB, c0, c1, c2, c3, c4, c5, c6, c7, c8, c9, c10, c11, c12, c13, c14, c15, c16, c17, c18, c19, c20, c21, c22, c23, c24, c25, c26, c27, c28, c29, c30, c31, c32, c33, c34, c35, c36, c37, c38, c39, c40, c41, c42, c43, c44, c45, c46, c47, c48, c49, c50, c51, c52, c53, c54, c55, c56, c57, c58, c59, c60, c61, c62, c63, c64, c65, c66, c68, o67, wn67, lk1, lk3⟩ hf hd K hK
                dsimp only at hK
                have hd63 : L 63 = true := (by first | (refine hd ⟨63, .data⟩ ?_ rfl; simp; done) | (refine hd ⟨63, .guard⟩ ?_ rfl; simp; done) | (refine hd ⟨63, .phase⟩ ?_ rfl; simp; done) | (refine hd ⟨63, .chain⟩ ?_ rfl; simp; done))
                have hd64 : L 64 = true := (by first | (refine hd ⟨64, .data⟩ ?_ rfl; simp; done) | (refine hd ⟨64, .guard⟩ ?_ rfl; simp; done) | (refine hd ⟨64, .phase⟩ ?_ rfl; simp; done) | (refine hd ⟨64, .chain⟩ ?_ rfl; simp; done))
                have e63 := c63 hd63
                rw [e63] at hK
                have e64 := c64 hd64
                rw [e64] at hK
                clear hd63
                clear hd64
                clear hd
                go_simp
                go_wp2_with (go_at_call 26; ((with_reducible refine (G2.out _).mono ?_); rintro e w5 ⟨rfl, hb⟩))
                refine hK _ _ ?_ (fun h => by cases h)
                intro s hs
                cases hs
                exact ⟨hB.trans (hb.mono (Nat.le_trans hbound hB.size)), c0, c1, c2, c3, c4, c5, c6, c7, c8, c9, c10, c11, c12, c13, c14, c15, c16, c17, c18, c19, c20, c21, c22, c23, c24, c25, c26, c27, c28, c29, c30, c31, c32, c33, c34, c35, c36, c37, c38, c39, c40, c41, c42, c43, c44, c45, c46, c47, c48, c49, c50, c51, c52, c53, c54, c55, c56, c57, c58, c59, c60, c61, c62, c63, c64, (fun _ => rfl), c66, c68, (fun h => (o67 h).keep hb), (fun h => (wn67 h).keep hb), (lk1.keep hb), (lk3.keep hb)⟩
              case s66r1 =>
                rintro L u W ⟨hB, c0, c1, c2, c3, c4, c5, c6, c7, c8, c9, c10, c11, c12, c13, c14, c15, c16, c17, c18, c19, c20, c21, c22, c23, c24, c25, c26, c27, c28, c29, c30, c31, c32, c33, c34, c35, c36, c37, c38, c39, c40, c41, c42, c43, c44, c45, c46, c47, c48, c49, c50, c51, c52, c53, c54, c55, c56, c57, c58, c59, c60, c61, c62, c63, c64, c65, c66, c68, o67, wn67, lk1, lk3⟩ hf hd K hK
                dsimp only at hK
                have hd21 : L 21 = true := (by first | (refine hd ⟨21, .data⟩ ?_ rfl; simp; done) | (refine hd ⟨21, .guard⟩ ?_ rfl; simp; done) | (refine hd ⟨21, .phase⟩ ?_ rfl; simp; done) | (refine hd ⟨21, .chain⟩ ?_ rfl; simp; done))
                have hd43 : L 43 = true := (by first | (refine hd ⟨43, .data⟩ ?_ rfl; simp; done) | (refine hd ⟨43, .guard⟩ ?_ rfl; simp; done) | (refine hd ⟨43, .phase⟩ ?_ rfl; simp; done) | (refine hd ⟨43, .chain⟩ ?_ rfl; simp; done))
                have hd65 : L 65 = true := (by first | (refine hd ⟨65, .data⟩ ?_ rfl; simp; done) | (refine hd ⟨65, .guard⟩ ?_ rfl; simp; done) | (refine hd ⟨65, .phase⟩ ?_ rfl; simp; done) | (refine hd ⟨65, .chain⟩ ?_ rfl; simp; done))
                have e21 := c21 hd21
                rw [e21] at hK
                have e43 := c43 hd43
                rw [e43] at hK
                have e65 := c65 hd65
                rw [e65] at hK
                clear hd21
                clear hd43
                clear hd65
                clear hd
                go_simp
                refine hK _ _ ?_ (fun h => by cases h)
                intro s hs
                cases hs
                exact ⟨hB, c0, c1, c2, c3, c4, c5, c6, c7, c8, c9, c10, c11, c12, c13, c14, c15, c16, c17, c18, c19, c20, c21, c22, c23, c24, c25, c26, c27, c28, c29, c30, c31, c32, c33, c34, c35, c36, c37, c38, c39, c40, c41, c42, c43, c44, c45, c46, c47, c48, c49, c50, c51, c52, c53, c54, c55, c56, c57, c58, c59, c60, c61, c62, c63, c64, c65, (fun _ => rfl), c68, o67, wn67, lk1, lk3⟩
              case s67r1 =>
                rintro L u W ⟨hB, c0, c1, c2, c3, c4, c5, c6, c7, c8, c9, c10, c11, c12, c13, c14, c15, c16, c17, c18, c19, c20, c21, c22, c23, c24, c25, c26, c27, c28, c29, c30, c31, c32, c33, c34, c35, c36, c37, c38, c39, c40, c41, c42, c43, c44, c45, c46, c47, c48, c49, c50, c51, c52, c53, c54, c55, c56, c57, c58, c59, c60, c61, c62, c63, c64, c65, c66, c68, o67, wn67, lk1, lk3⟩ hf hd K hK
                dsimp only at hK
                have hd66 : L 66 = true := (by first | (refine hd ⟨66, .data⟩ ?_ rfl; simp; done) | (refine hd ⟨66, .phase⟩ ?_ rfl; simp; done))
                have k3 := o67 hf
                have e66 := c66 hd66
                rw [e66] at hK
                have t0 := k3.cell (i := 0) rfl
                have f0 := k3.frozen 0
                have t1 := k3.cell (i := 1) rfl
                have f1 := k3.frozen 1
                have t2 := k3.cell (i := 2) rfl
                have f2 := k3.frozen 2
                clear hd
                have hd66' := Lib.hid hd66
                clear hd66
                go_simp
                have hd66 := hd66'.out
                have hlok := ((k3.set (i := 0) (v := .int .i64 v0)).set (i := 1) (v := .int .i64 v1)).set (i := 2) (v := .int .i64 v2)
                refine hK undef _ (fun s h => by cases h) (fun _ => ?_)
                exact ⟨((hB.setCell (by first | exact Nat.le_refl _ | assumption | (show _ ≤ _; omega) | (show ((w.heap.size + 3)) ≤ (w.heap.size + 3); omega)) _).setCell (by first | exact Nat.le_refl _ | assumption | (show _ ≤ _; omega) | (show ((w.heap.size + 3)) ≤ (w.heap.size + 3); omega)) _).setCell (by first | exact Nat.le_refl _ | assumption | (show _ ≤ _; omega) | (show ((w.heap.size + 3)) ≤ (w.heap.size + 3); omega)) _, c0, c1, c2, c3, c4, c5, c6, c7, c8, c9, c10, c11, c12, c13, c14, c15, c16, c17, c18, c19, c20, c21, c22, c23, c24, c25, c26, c27, c28, c29, c30, c31, c32, c33, c34, c35, c36, c37, c38, c39, c40, c41, c42, c43, c44, c45, c46, c47, c48, c49, c50, c51, c52, c53, c54, c55, c56, c57, c58, c59, c60, c61, c62, c63, c64, c65, (fun _ => rfl), c68, (fun h => by cases h), (fun _ => hlok), (((lk1.far (by first | assumption | omega)).far (by first | assumption | omega)).far (by first | assumption | omega)), (((lk3.far (by first | assumption | omega)).far (by first | assumption | omega)).far (by first | assumption | omega))⟩
              case s68r1 =>
                rintro L u W ⟨hB, c0, c1, c2, c3, c4, c5, c6, c7, c8, c9, c10, c11, c12, c13, c14, c15, c16, c17, c18, c19, c20, c21, c22, c23, c24, c25, c26, c27, c28, c29, c30, c31, c32, c33, c34, c35, c36, c37, c38, c39, c40, c41, c42, c43, c44, c45, c46, c47, c48, c49, c50, c51, c52, c53, c54, c55, c56, c57, c58, c59, c60, c61, c62, c63, c64, c65, c66, c68, o67, wn67, lk1, lk3⟩ hf hd K hK
                dsimp only at hK
                clear hd
                go_simp
                refine hK _ _ ?_ (fun h => by cases h)
                intro s hs
                cases hs
                exact ⟨hB, c0, c1, c2, c3, c4, c5, c6, c7, c8, c9, c10, c11, c12, c13, c14, c15, c16, c17, c18, c19, c20, c21, c22, c23, c24, c25, c26, c27, c28, c29, c30, c31, c32, c33, c34, c35, c36, c37, c38, c39, c40, c41, c42, c43, c44, c45, c46, c47, c48, c49, c50, c51, c52, c53, c54, c55, c56, c57, c58, c59, c60, c61, c62, c63, c64, c65, c66, (fun _ => rfl), o67, wn67, lk1, lk3⟩
            case finr1 =>
              rintro L u W hL ⟨hB, c0, c1, c2, c3, c4, c5, c6, c7, c8, c9, c10, c11, c12, c13, c14, c15, c16, c17, c18, c19, c20, c21, c22, c23, c24, c25, c26, c27, c28, c29, c30, c31, c32, c33, c34, c35, c36, c37, c38, c39, c40, c41, c42, c43, c44, c45, c46, c47, c48, c49, c50, c51, c52, c53, c54, c55, c56, c57, c58, c59, c60, c61, c62, c63, c64, c65, c66, c68, o67, wn67, lk1, lk3⟩
              have e0 := c0 (hL 0 (by decide))
              have e1 := c1 (hL 1 (by decide))
              have e2 := c2 (hL 2 (by decide))
              have e3 := c3 (hL 3 (by decide))
              have e4 := c4 (hL 4 (by decide))
              have e5 := c5 (hL 5 (by decide))
              have e6 := c6 (hL 6 (by decide))
              have e7 := c7 (hL 7 (by decide))
              have e8 := c8 (hL 8 (by decide))
              have e9 := c9 (hL 9 (by decide))
              have e10 := c10 (hL 10 (by decide))
              have e11 := c11 (hL 11 (by decide))
              have e12 := c12 (hL 12 (by decide))
              have e13 := c13 (hL 13 (by decide))
              have e14 := c14 (hL 14 (by decide))
              have e15 := c15 (hL 15 (by decide))
              have e16 := c16 (hL 16 (by decide))
              have e17 := c17 (hL 17 (by decide))
              have e18 := c18 (hL 18 (by decide))
              have e19 := c19 (hL 19 (by decide))
              have e20 := c20 (hL 20 (by decide))
              have e21 := c21 (hL 21 (by decide))
              have e22 := c22 (hL 22 (by decide))
              have e23 := c23 (hL 23 (by decide))
              have e24 := c24 (hL 24 (by decide))
              have e25 := c25 (hL 25 (by decide))
              have e26 := c26 (hL 26 (by decide))
              have e27 := c27 (hL 27 (by decide))
              have e28 := c28 (hL 28 (by decide))
              have e29 := c29 (hL 29 (by decide))
              have e30 := c30 (hL 30 (by decide))
              have e31 := c31 (hL 31 (by decide))
              have e32 := c32 (hL 32 (by decide))
              have e33 := c33 (hL 33 (by decide))
              have e34 := c34 (hL 34 (by decide))
              have e35 := c35 (hL 35 (by decide))
              have e36 := c36 (hL 36 (by decide))
              have e37 := c37 (hL 37 (by decide))
              have e38 := c38 (hL 38 (by decide))
              have e39 := c39 (hL 39 (by decide))
              have e40 := c40 (hL 40 (by decide))
              have e41 := c41 (hL 41 (by decide))
              have e42 := c42 (hL 42 (by decide))
              have e43 := c43 (hL 43 (by decide))
              have e44 := c44 (hL 44 (by decide))
              have e45 := c45 (hL 45 (by decide))
              have e46 := c46 (hL 46 (by decide))
              have e47 := c47 (hL 47 (by decide))
              have e48 := c48 (hL 48 (by decide))
              have e49 := c49 (hL 49 (by decide))
              have e50 := c50 (hL 50 (by decide))
              have e51 := c51 (hL 51 (by decide))
              have e52 := c52 (hL 52 (by decide))
              have e53 := c53 (hL 53 (by decide))
              have e54 := c54 (hL 54 (by decide))
              have e55 := c55 (hL 55 (by decide))
              have e56 := c56 (hL 56 (by decide))
              have e57 := c57 (hL 57 (by decide))
              have e58 := c58 (hL 58 (by decide))
              have e59 := c59 (hL 59 (by decide))
              have e60 := c60 (hL 60 (by decide))
              have e61 := c61 (hL 61 (by decide))
              have e62 := c62 (hL 62 (by decide))
              have e63 := c63 (hL 63 (by decide))
              have e64 := c64 (hL 64 (by decide))
              have e65 := c65 (hL 65 (by decide))
              have e66 := c66 (hL 66 (by decide))
              have e68 := c68 (hL 68 (by decide))
              have hlok67 := wn67 (hL 67 (by decide))
              clear hL c0 c1 c2 c3 c4 c5 c6 c7 c8 c9 c10 c11 c12 c13 c14 c15 c16 c17 c18 c19 c20 c21 c22 c23 c24 c25 c26 c27 c28 c29 c30 c31 c32 c33 c34 c35 c36 c37 c38 c39 c40 c41 c42 c43 c44 c45 c46 c47 c48 c49 c50 c51 c52 c53 c54 c55 c56 c57 c58 c59 c60 c61 c62 c63 c64 c65 c66 c68 o67 wn67
              try simp only [e0, e1, e2, e3, e4, e5, e6, e7, e8, e9, e10, e11, e12, e13, e14, e15, e16, e17, e18, e19, e20, e21, e22, e23, e24, e25, e26, e27, e28, e29, e30, e31, e32, e33, e34, e35, e36, e37, e38, e39, e40, e41, e42, e43, e44, e45, e46, e47, e48, e49, e50, e51, e52, e53, e54, e55, e56, e57, e58, e59, e60, e61, e62, e63, e64, e65, e66, e68]
              clear e0 e1 e2 e3 e4 e5 e6 e7 e8 e9 e10 e11 e12 e13 e14 e15 e16 e17 e18 e19 e20 e21 e22 e23 e24 e25 e26 e27 e28 e29 e30 e31 e32 e33 e34 e35 e36 e37 e38 e39 e40 e41 e42 e43 e44 e45 e46 e47 e48 e49 e50 e51 e52 e53 e54 e55 e56 e57 e58 e59 e60 e61 e62 e63 e64 e65 e66 e68
              have r0 := hlok67.cell (i := 0) rfl
              have r1 := hlok67.cell (i := 1) rfl
              have r2 := hlok67.cell (i := 2) rfl
              go_wp2_with fail
              exact bodyPost_ret (v := .tuple #[.agg #[.int .i64 v0, .int .i64 v1, .int .i64 v2], .int .i64 0]) (by simp [results, Try.results15, go_sem, r0, r1, r2]) rfl ⟨rfl, HB.out.trans (hB.mono (by omega))⟩
end Go.Proofs.Ytllamakemgogaaa
