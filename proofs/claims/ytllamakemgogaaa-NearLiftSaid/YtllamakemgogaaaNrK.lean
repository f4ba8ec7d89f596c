/-
  Contracts of package near: the closure that weighs, Lift. (gen/NrK.py)
-/
import Derived.Test.YtllamakemgogaaaNrI
namespace Go.Proofs.Ytllamakemgogaaa
open Go.RowKit

theorem w_bd {x y a1 a2 b1 b2 c1 c2 : Int} (hp : s2 x y = true) (ha : rT a1 a2 b1 b2 c1 c2 = true) :
    (-134217728 ≤ wA x y a1 a2 b1 b2 c1 c2 ∧ wA x y a1 a2 b1 b2 c1 c2 ≤ 134217728) ∧ (-134217728 ≤ wB x y a1 a2 b1 b2 c1 c2 ∧ wB x y a1 a2 b1 b2 c1 c2 ≤ 134217728) ∧ (-134217728 ≤ wC x y a1 a2 b1 b2 c1 c2 ∧ wC x y a1 a2 b1 b2 c1 c2 ≤ 134217728) ∧ (1 ≤ wW a1 a2 b1 b2 c1 c2 ∧ wW a1 a2 b1 b2 c1 c2 ≤ 134217728) := by
  obtain ⟨h1, h2, h3⟩ := small_of3 (rT_small ha)
  have hn := wg_self (rT_iff.1 ha).2.2.2
  have f3 := wg_bd (A := ar a1 a2 b1 b2 c1 c2) (ar_s2 h1 h2 h3)
  exact ⟨wg_bd (ar_s2 hp h2 h3), wg_bd (ar_s2 hp h3 h1), wg_bd (ar_s2 hp h1 h2), by unfold wW; omega, f3.2⟩
/-- What Lift tells. -/
def lV (u s t : Bool) (v : Int) : Int := if u = true then gV s t v else 0
def lE (u s t : Bool) : Int := if u = true then iE s t else 5
theorem lV_yes (s t : Bool) (v : Int) : lV true s t v = gV s t v := rfl
theorem lV_no (s t : Bool) (v : Int) : lV false s t v = 0 := rfl
theorem lE_yes (s t : Bool) : lE true s t = iE s t := rfl
theorem lE_no (s t : Bool) : lE false s t = 5 := rfl
theorem far_part {w a : Int} (h : -134217728 ≤ w ∧ w ≤ 134217728) (k : SM 16384 a) : -2199023255552 ≤ w * a ∧ w * a ≤ 2199023255552 := by
  unfold SM at k
  have p := abs_prod (a := w) (b := a) (m := 134217728) (n := 16384) (by omega) (by omega)
  omega
set_option maxRecDepth 100000 in
set_option maxHeartbeats 4000000 in
theorem weigh_any (a b c k0 k1 k2 n : Int) (h0 : -134217728 ≤ k0 ∧ k0 ≤ 134217728) (h1 : -134217728 ≤ k1 ∧ k1 ≤ 134217728) (h2 : -134217728 ≤ k2 ∧ k2 ≤ 134217728) (hn : 1 ≤ n ∧ n ≤ 134217728) (ha : SM 16384 a) (hb : SM 16384 b) (hc : SM 16384 c) (ga gb : Nat) (w : World)
    (l1 : Lok w ga 35 #[.int .i64 k0, .int .i64 k1, .int .i64 k2]) (l2 : Lok w gb 3 #[.int .i64 n]) :
    Calls Try.prog 33 #[.int .i64 a, .int .i64 b, .int .i64 c, .pointer (some ⟨ga, 0, none⟩), .pointer (some ⟨gb, 0, none⟩)] w fun e' w' => e' = .returned (.int .i64 (lf k0 k1 k2 n a b c)) ∧ Below w.heap.size w w' := by
  have HB := Lib.hid (Below.refl w.heap.size w)
  have f0 := far_part h0 ha
  have f1 := far_part h1 hb
  have f2 := far_part h2 hc
  have G := Lib.hid (fun W => down_any (k0 * a + k1 * b + k2 * c) n hn.1 (by unfold In64; omega) (by unfold In64; omega) W)
  have e0 : IntKind.i64.wrap (k0 * a) = k0 * a := IntWalk.i64_in _ (by omega)
  have e1 : IntKind.i64.wrap (k1 * b) = k1 * b := IntWalk.i64_in _ (by omega)
  have e2 : IntKind.i64.wrap (k2 * c) = k2 * c := IntWalk.i64_in _ (by omega)
  have e3 : IntKind.i64.wrap (k0 * a + k1 * b) = k0 * a + k1 * b := IntWalk.i64_in _ (by omega)
  have e4 : IntKind.i64.wrap (k0 * a + k1 * b + k2 * c) = k0 * a + k1 * b + k2 * c := IntWalk.i64_in _ (by omega)
  unfold lf
  have z0 := l1.cell (i := 0) rfl
  have z1 := l1.cell (i := 1) rfl
  have z2 := l1.cell (i := 2) rfl
  have z3 := l2.cell (i := 0) rfl
  clear f0 f1 f2 h0 h1 h2 hn ha hb hc l1 l2
  go_enter Try.func33, Try.ntmps33
  go_wp2_with fail
  (((with_reducible refine (G.out _).mono ?_); rintro e w1 ⟨rfl, hb1⟩); replace HB := Lib.hid (HB.out.trans (hb1.mono HB.out.size)); clear hb1)
  go_wp2
  go_ret
  exact ⟨rfl, HB.out⟩
set_option maxRecDepth 100000 in
set_option maxHeartbeats 8000000 in
theorem lift_any (x y a1 a2 b1 b2 c1 c2 qa1 qa2 qa3 qb1 qb2 qb3 qc1 qc2 qc3 : Int) (w : World) :
    Calls Try.prog 14 #[.agg #[.int .i64 x, .int .i64 y], .agg #[.int .i64 a1, .int .i64 a2, .int .i64 b1, .int .i64 b2, .int .i64 c1, .int .i64 c2], .agg #[.int .i64 qa1, .int .i64 qa2, .int .i64 qa3, .int .i64 qb1, .int .i64 qb2, .int .i64 qb3, .int .i64 qc1, .int .i64 qc2, .int .i64 qc3]] w fun e' w' => e' = .returned (.tuple #[.agg #[.int .i64 (lV (s3 qa1 qa2 qa3 && s3 qb1 qb2 qb3 && s3 qc1 qc2 qc3) (s2 x y) (rT a1 a2 b1 b2 c1 c2) (lf (wA x y a1 a2 b1 b2 c1 c2) (wB x y a1 a2 b1 b2 c1 c2) (wC x y a1 a2 b1 b2 c1 c2) (wW a1 a2 b1 b2 c1 c2) qa1 qb1 qc1)), .int .i64 (lV (s3 qa1 qa2 qa3 && s3 qb1 qb2 qb3 && s3 qc1 qc2 qc3) (s2 x y) (rT a1 a2 b1 b2 c1 c2) (lf (wA x y a1 a2 b1 b2 c1 c2) (wB x y a1 a2 b1 b2 c1 c2) (wC x y a1 a2 b1 b2 c1 c2) (wW a1 a2 b1 b2 c1 c2) qa2 qb2 qc2)), .int .i64 (lV (s3 qa1 qa2 qa3 && s3 qb1 qb2 qb3 && s3 qc1 qc2 qc3) (s2 x y) (rT a1 a2 b1 b2 c1 c2) (lf (wA x y a1 a2 b1 b2 c1 c2) (wB x y a1 a2 b1 b2 c1 c2) (wC x y a1 a2 b1 b2 c1 c2) (wW a1 a2 b1 b2 c1 c2) qa3 qb3 qc3))], .int .i64 (lE (s3 qa1 qa2 qa3 && s3 qb1 qb2 qb3 && s3 qc1 qc2 qc3) (s2 x y) (rT a1 a2 b1 b2 c1 c2))]) ∧ Below w.heap.size w w' := by
  have HB := Lib.hid (Below.refl w.heap.size w)
  have S := Lib.hid (fun g T W h => small3_3 qa1 qa2 qa3 qb1 qb2 qb3 qc1 qc2 qc3 _ rfl g T W h)
  have WT := Lib.hid (fun W => weights_any x y a1 a2 b1 b2 c1 c2 W)
  cases hu : s3 qa1 qa2 qa3 && s3 qb1 qb2 qb3 && s3 qc1 qc2 qc3 with
  | false =>
    rw [hu] at S
    simp only [lV_no, lE_no]
    clear hu WT
    go_enter Try.func14, Try.ntmps14
    go_upto_region 1 with fail
    have hbp := below_new1 w (.cells #[.int .i64 x, .int .i64 y] 23)
    have zp : (w.alloc (.cells #[.int .i64 x, .int .i64 y] 23)).heap.size = w.heap.size + 1 := by simp
    have HB := Lib.hid hbp
    have kp := Lib.hid (Lok.new w 23 #[.int .i64 x, .int .i64 y])
    clear hbp
    generalize w.alloc (.cells #[.int .i64 x, .int .i64 y] 23) = Vp at *
    have hbt := below_new1 Vp (.cells #[.int .i64 a1, .int .i64 a2, .int .i64 b1, .int .i64 b2, .int .i64 c1, .int .i64 c2] 24)
    replace kp := Lib.hid (kp.out.keep hbt)
    have zt : (Vp.alloc (.cells #[.int .i64 a1, .int .i64 a2, .int .i64 b1, .int .i64 b2, .int .i64 c1, .int .i64 c2] 24)).heap.size = Vp.heap.size + 1 := by simp
    replace HB := Lib.hid (HB.out.trans (hbt.mono HB.out.size))
    have kt := Lib.hid (Lok.new Vp 24 #[.int .i64 a1, .int .i64 a2, .int .i64 b1, .int .i64 b2, .int .i64 c1, .int .i64 c2])
    clear hbt
    generalize Vp.alloc (.cells #[.int .i64 a1, .int .i64 a2, .int .i64 b1, .int .i64 b2, .int .i64 c1, .int .i64 c2] 24) = Vt at *
    rw [zp] at kt zt
    have hbs := below_new1 Vt (.cells #[.int .i64 qa1, .int .i64 qa2, .int .i64 qa3, .int .i64 qb1, .int .i64 qb2, .int .i64 qb3, .int .i64 qc1, .int .i64 qc2, .int .i64 qc3] 27)
    replace kp := Lib.hid (kp.out.keep hbs)
    replace kt := Lib.hid (kt.out.keep hbs)
    have zs : (Vt.alloc (.cells #[.int .i64 qa1, .int .i64 qa2, .int .i64 qa3, .int .i64 qb1, .int .i64 qb2, .int .i64 qb3, .int .i64 qc1, .int .i64 qc2, .int .i64 qc3] 27)).heap.size = Vt.heap.size + 1 := by simp
    replace HB := Lib.hid (HB.out.trans (hbs.mono HB.out.size))
    have ks := Lib.hid (Lok.new Vt 27 #[.int .i64 qa1, .int .i64 qa2, .int .i64 qa3, .int .i64 qb1, .int .i64 qb2, .int .i64 qb3, .int .i64 qc1, .int .i64 qc2, .int .i64 qc3])
    clear hbs
    generalize Vt.alloc (.cells #[.int .i64 qa1, .int .i64 qa2, .int .i64 qa3, .int .i64 qb1, .int .i64 qb2, .int .i64 qb3, .int .i64 qc1, .int .i64 qc2, .int .i64 qc3] 27) = Vs at *
    rw [zt] at ks zs
    have hbr := below_new1 Vs (.cells #[.int .i64 0, .int .i64 0, .int .i64 0] 26)
    replace kp := Lib.hid (kp.out.keep hbr)
    replace kt := Lib.hid (kt.out.keep hbr)
    replace ks := Lib.hid (ks.out.keep hbr)
    have zr : (Vs.alloc (.cells #[.int .i64 0, .int .i64 0, .int .i64 0] 26)).heap.size = Vs.heap.size + 1 := by simp
    replace HB := Lib.hid (HB.out.trans (hbr.mono HB.out.size))
    have kr := Lib.hid (Lok.new Vs 26 #[.int .i64 0, .int .i64 0, .int .i64 0])
    clear hbr
    generalize Vs.alloc (.cells #[.int .i64 0, .int .i64 0, .int .i64 0] 26) = Vr at *
    rw [zs] at kr
    clear zp zt zs zr
    go_wp2_with fail
    (((with_reducible refine (S.out _ _ _ ks.out).mono ?_); rintro e w1 ⟨rfl, hb1⟩); replace HB := Lib.hid (HB.out.trans (hb1.mono HB.out.size)); replace kp := Lib.hid (kp.out.keep hb1); replace kt := Lib.hid (kt.out.keep hb1); replace ks := Lib.hid (ks.out.keep hb1); replace kr := Lib.hid (kr.out.keep hb1); clear hb1)
    have r0 := kr.out.cell (i := 0) rfl
    have r1 := kr.out.cell (i := 1) rfl
    have r2 := kr.out.cell (i := 2) rfl
    have fr0 := kr.out.frozen 0
    have fr1 := kr.out.frozen 1
    have fr2 := kr.out.frozen 2
    go_wp2_with fail
    exact bodyPost_ret (v := .tuple #[.agg #[.int .i64 0, .int .i64 0, .int .i64 0], .int .i64 5]) (by simp [results, Try.results14, go_sem, r0, r1, r2]) rfl ⟨rfl, ((HB.out.setCell (by simp <;> omega) _).setCell (by simp <;> omega) _).setCell (by simp <;> omega) _⟩
  | true =>
    rw [hu] at S
    simp only [lV_yes, lE_yes]
    cases hs : s2 x y with
    | false =>
      simp only [hs, gV_no, iE_no] at WT ⊢
      clear hs hu
      go_enter Try.func14, Try.ntmps14
      go_upto_region 1 with fail
      have hbp := below_new1 w (.cells #[.int .i64 x, .int .i64 y] 23)
      have zp : (w.alloc (.cells #[.int .i64 x, .int .i64 y] 23)).heap.size = w.heap.size + 1 := by simp
      have HB := Lib.hid hbp
      have kp := Lib.hid (Lok.new w 23 #[.int .i64 x, .int .i64 y])
      clear hbp
      generalize w.alloc (.cells #[.int .i64 x, .int .i64 y] 23) = Vp at *
      have hbt := below_new1 Vp (.cells #[.int .i64 a1, .int .i64 a2, .int .i64 b1, .int .i64 b2, .int .i64 c1, .int .i64 c2] 24)
      replace kp := Lib.hid (kp.out.keep hbt)
      have zt : (Vp.alloc (.cells #[.int .i64 a1, .int .i64 a2, .int .i64 b1, .int .i64 b2, .int .i64 c1, .int .i64 c2] 24)).heap.size = Vp.heap.size + 1 := by simp
      replace HB := Lib.hid (HB.out.trans (hbt.mono HB.out.size))
      have kt := Lib.hid (Lok.new Vp 24 #[.int .i64 a1, .int .i64 a2, .int .i64 b1, .int .i64 b2, .int .i64 c1, .int .i64 c2])
      clear hbt
      generalize Vp.alloc (.cells #[.int .i64 a1, .int .i64 a2, .int .i64 b1, .int .i64 b2, .int .i64 c1, .int .i64 c2] 24) = Vt at *
      rw [zp] at kt zt
      have hbs := below_new1 Vt (.cells #[.int .i64 qa1, .int .i64 qa2, .int .i64 qa3, .int .i64 qb1, .int .i64 qb2, .int .i64 qb3, .int .i64 qc1, .int .i64 qc2, .int .i64 qc3] 27)
      replace kp := Lib.hid (kp.out.keep hbs)
      replace kt := Lib.hid (kt.out.keep hbs)
      have zs : (Vt.alloc (.cells #[.int .i64 qa1, .int .i64 qa2, .int .i64 qa3, .int .i64 qb1, .int .i64 qb2, .int .i64 qb3, .int .i64 qc1, .int .i64 qc2, .int .i64 qc3] 27)).heap.size = Vt.heap.size + 1 := by simp
      replace HB := Lib.hid (HB.out.trans (hbs.mono HB.out.size))
      have ks := Lib.hid (Lok.new Vt 27 #[.int .i64 qa1, .int .i64 qa2, .int .i64 qa3, .int .i64 qb1, .int .i64 qb2, .int .i64 qb3, .int .i64 qc1, .int .i64 qc2, .int .i64 qc3])
      clear hbs
      generalize Vt.alloc (.cells #[.int .i64 qa1, .int .i64 qa2, .int .i64 qa3, .int .i64 qb1, .int .i64 qb2, .int .i64 qb3, .int .i64 qc1, .int .i64 qc2, .int .i64 qc3] 27) = Vs at *
      rw [zt] at ks zs
      have hbr := below_new1 Vs (.cells #[.int .i64 0, .int .i64 0, .int .i64 0] 26)
      replace kp := Lib.hid (kp.out.keep hbr)
      replace kt := Lib.hid (kt.out.keep hbr)
      replace ks := Lib.hid (ks.out.keep hbr)
      have zr : (Vs.alloc (.cells #[.int .i64 0, .int .i64 0, .int .i64 0] 26)).heap.size = Vs.heap.size + 1 := by simp
      replace HB := Lib.hid (HB.out.trans (hbr.mono HB.out.size))
      have kr := Lib.hid (Lok.new Vs 26 #[.int .i64 0, .int .i64 0, .int .i64 0])
      clear hbr
      generalize Vs.alloc (.cells #[.int .i64 0, .int .i64 0, .int .i64 0] 26) = Vr at *
      rw [zs] at kr
      clear zp zt zs zr
      go_wp2_with fail
      (((with_reducible refine (S.out _ _ _ ks.out).mono ?_); rintro e w1 ⟨rfl, hb1⟩); replace HB := Lib.hid (HB.out.trans (hb1.mono HB.out.size)); replace kp := Lib.hid (kp.out.keep hb1); replace kt := Lib.hid (kt.out.keep hb1); replace ks := Lib.hid (ks.out.keep hb1); replace kr := Lib.hid (kr.out.keep hb1); clear hb1)
      have p0 := kp.out.cell (i := 0) rfl
      have p1 := kp.out.cell (i := 1) rfl
      have t0 := kt.out.cell (i := 0) rfl
      have t1 := kt.out.cell (i := 1) rfl
      have t2 := kt.out.cell (i := 2) rfl
      have t3 := kt.out.cell (i := 3) rfl
      have t4 := kt.out.cell (i := 4) rfl
      have t5 := kt.out.cell (i := 5) rfl
      go_wp2_with fail
      clear p0 p1 t0 t1 t2 t3 t4 t5
      (((with_reducible refine (WT.out _).mono ?_); rintro e w2 ⟨rfl, hb2⟩); replace HB := Lib.hid (HB.out.trans (hb2.mono HB.out.size)); replace kp := Lib.hid (kp.out.keep hb2); replace kt := Lib.hid (kt.out.keep hb2); replace ks := Lib.hid (ks.out.keep hb2); replace kr := Lib.hid (kr.out.keep hb2); clear hb2)
      go_upto_region 4 with fail
      have hlt := kr.out.lt
      have hbm := below_new1 w2 (.cells #[.int .i64 0, .int .i64 0, .int .i64 0] 35)
      replace kp := Lib.hid (kp.out.keep hbm)
      replace kt := Lib.hid (kt.out.keep hbm)
      replace ks := Lib.hid (ks.out.keep hbm)
      replace kr := Lib.hid (kr.out.keep hbm)
      have zm : (w2.alloc (.cells #[.int .i64 0, .int .i64 0, .int .i64 0] 35)).heap.size = w2.heap.size + 1 := by simp
      replace HB := Lib.hid (HB.out.trans (hbm.mono HB.out.size))
      have km := Lib.hid (Lok.new w2 35 #[.int .i64 0, .int .i64 0, .int .i64 0])
      clear hbm
      generalize w2.alloc (.cells #[.int .i64 0, .int .i64 0, .int .i64 0] 35) = Vm at *
      have hbn := below_new1 Vm (.cells #[.int .i64 0] 3)
      replace kp := Lib.hid (kp.out.keep hbn)
      replace kt := Lib.hid (kt.out.keep hbn)
      replace ks := Lib.hid (ks.out.keep hbn)
      replace kr := Lib.hid (kr.out.keep hbn)
      replace km := Lib.hid (km.out.keep hbn)
      have zn : (Vm.alloc (.cells #[.int .i64 0] 3)).heap.size = Vm.heap.size + 1 := by simp
      replace HB := Lib.hid (HB.out.trans (hbn.mono HB.out.size))
      have kn := Lib.hid (Lok.new Vm 3 #[.int .i64 0])
      clear hbn
      generalize Vm.alloc (.cells #[.int .i64 0] 3) = Vn at *
      rw [zm] at kn
      clear zm zn
      generalize w2.heap.size = gm at *
      have r0 := kr.out.cell (i := 0) rfl
      have r1 := kr.out.cell (i := 1) rfl
      have r2 := kr.out.cell (i := 2) rfl
      have fr0 := kr.out.frozen 0
      have fr1 := kr.out.frozen 1
      have fr2 := kr.out.frozen 2
      go_wp2_with fail
      exact bodyPost_ret (v := .tuple #[.agg #[.int .i64 0, .int .i64 0, .int .i64 0], .int .i64 5]) (by simp [results, Try.results14, go_sem, r0, r1, r2]) rfl ⟨rfl, ((HB.out.setCell (by simp <;> omega) _).setCell (by simp <;> omega) _).setCell (by simp <;> omega) _⟩
    | true =>
      cases ha : rT a1 a2 b1 b2 c1 c2 with
      | false =>
        simp only [hs, ha, gV_arg, iE_arg] at WT ⊢
        clear hs ha hu
        go_enter Try.func14, Try.ntmps14
        go_upto_region 1 with fail
        have hbp := below_new1 w (.cells #[.int .i64 x, .int .i64 y] 23)
        have zp : (w.alloc (.cells #[.int .i64 x, .int .i64 y] 23)).heap.size = w.heap.size + 1 := by simp
        have HB := Lib.hid hbp
        have kp := Lib.hid (Lok.new w 23 #[.int .i64 x, .int .i64 y])
        clear hbp
        generalize w.alloc (.cells #[.int .i64 x, .int .i64 y] 23) = Vp at *
        have hbt := below_new1 Vp (.cells #[.int .i64 a1, .int .i64 a2, .int .i64 b1, .int .i64 b2, .int .i64 c1, .int .i64 c2] 24)
        replace kp := Lib.hid (kp.out.keep hbt)
        have zt : (Vp.alloc (.cells #[.int .i64 a1, .int .i64 a2, .int .i64 b1, .int .i64 b2, .int .i64 c1, .int .i64 c2] 24)).heap.size = Vp.heap.size + 1 := by simp
        replace HB := Lib.hid (HB.out.trans (hbt.mono HB.out.size))
        have kt := Lib.hid (Lok.new Vp 24 #[.int .i64 a1, .int .i64 a2, .int .i64 b1, .int .i64 b2, .int .i64 c1, .int .i64 c2])
        clear hbt
        generalize Vp.alloc (.cells #[.int .i64 a1, .int .i64 a2, .int .i64 b1, .int .i64 b2, .int .i64 c1, .int .i64 c2] 24) = Vt at *
        rw [zp] at kt zt
        have hbs := below_new1 Vt (.cells #[.int .i64 qa1, .int .i64 qa2, .int .i64 qa3, .int .i64 qb1, .int .i64 qb2, .int .i64 qb3, .int .i64 qc1, .int .i64 qc2, .int .i64 qc3] 27)
        replace kp := Lib.hid (kp.out.keep hbs)
        replace kt := Lib.hid (kt.out.keep hbs)
        have zs : (Vt.alloc (.cells #[.int .i64 qa1, .int .i64 qa2, .int .i64 qa3, .int .i64 qb1, .int .i64 qb2, .int .i64 qb3, .int .i64 qc1, .int .i64 qc2, .int .i64 qc3] 27)).heap.size = Vt.heap.size + 1 := by simp
        replace HB := Lib.hid (HB.out.trans (hbs.mono HB.out.size))
        have ks := Lib.hid (Lok.new Vt 27 #[.int .i64 qa1, .int .i64 qa2, .int .i64 qa3, .int .i64 qb1, .int .i64 qb2, .int .i64 qb3, .int .i64 qc1, .int .i64 qc2, .int .i64 qc3])
        clear hbs
        generalize Vt.alloc (.cells #[.int .i64 qa1, .int .i64 qa2, .int .i64 qa3, .int .i64 qb1, .int .i64 qb2, .int .i64 qb3, .int .i64 qc1, .int .i64 qc2, .int .i64 qc3] 27) = Vs at *
        rw [zt] at ks zs
        have hbr := below_new1 Vs (.cells #[.int .i64 0, .int .i64 0, .int .i64 0] 26)
        replace kp := Lib.hid (kp.out.keep hbr)
        replace kt := Lib.hid (kt.out.keep hbr)
        replace ks := Lib.hid (ks.out.keep hbr)
        have zr : (Vs.alloc (.cells #[.int .i64 0, .int .i64 0, .int .i64 0] 26)).heap.size = Vs.heap.size + 1 := by simp
        replace HB := Lib.hid (HB.out.trans (hbr.mono HB.out.size))
        have kr := Lib.hid (Lok.new Vs 26 #[.int .i64 0, .int .i64 0, .int .i64 0])
        clear hbr
        generalize Vs.alloc (.cells #[.int .i64 0, .int .i64 0, .int .i64 0] 26) = Vr at *
        rw [zs] at kr
        clear zp zt zs zr
        go_wp2_with fail
        (((with_reducible refine (S.out _ _ _ ks.out).mono ?_); rintro e w1 ⟨rfl, hb1⟩); replace HB := Lib.hid (HB.out.trans (hb1.mono HB.out.size)); replace kp := Lib.hid (kp.out.keep hb1); replace kt := Lib.hid (kt.out.keep hb1); replace ks := Lib.hid (ks.out.keep hb1); replace kr := Lib.hid (kr.out.keep hb1); clear hb1)
        have p0 := kp.out.cell (i := 0) rfl
        have p1 := kp.out.cell (i := 1) rfl
        have t0 := kt.out.cell (i := 0) rfl
        have t1 := kt.out.cell (i := 1) rfl
        have t2 := kt.out.cell (i := 2) rfl
        have t3 := kt.out.cell (i := 3) rfl
        have t4 := kt.out.cell (i := 4) rfl
        have t5 := kt.out.cell (i := 5) rfl
        go_wp2_with fail
        clear p0 p1 t0 t1 t2 t3 t4 t5
        (((with_reducible refine (WT.out _).mono ?_); rintro e w2 ⟨rfl, hb2⟩); replace HB := Lib.hid (HB.out.trans (hb2.mono HB.out.size)); replace kp := Lib.hid (kp.out.keep hb2); replace kt := Lib.hid (kt.out.keep hb2); replace ks := Lib.hid (ks.out.keep hb2); replace kr := Lib.hid (kr.out.keep hb2); clear hb2)
        go_upto_region 4 with fail
        have hlt := kr.out.lt
        have hbm := below_new1 w2 (.cells #[.int .i64 0, .int .i64 0, .int .i64 0] 35)
        replace kp := Lib.hid (kp.out.keep hbm)
        replace kt := Lib.hid (kt.out.keep hbm)
        replace ks := Lib.hid (ks.out.keep hbm)
        replace kr := Lib.hid (kr.out.keep hbm)
        have zm : (w2.alloc (.cells #[.int .i64 0, .int .i64 0, .int .i64 0] 35)).heap.size = w2.heap.size + 1 := by simp
        replace HB := Lib.hid (HB.out.trans (hbm.mono HB.out.size))
        have km := Lib.hid (Lok.new w2 35 #[.int .i64 0, .int .i64 0, .int .i64 0])
        clear hbm
        generalize w2.alloc (.cells #[.int .i64 0, .int .i64 0, .int .i64 0] 35) = Vm at *
        have hbn := below_new1 Vm (.cells #[.int .i64 0] 3)
        replace kp := Lib.hid (kp.out.keep hbn)
        replace kt := Lib.hid (kt.out.keep hbn)
        replace ks := Lib.hid (ks.out.keep hbn)
        replace kr := Lib.hid (kr.out.keep hbn)
        replace km := Lib.hid (km.out.keep hbn)
        have zn : (Vm.alloc (.cells #[.int .i64 0] 3)).heap.size = Vm.heap.size + 1 := by simp
        replace HB := Lib.hid (HB.out.trans (hbn.mono HB.out.size))
        have kn := Lib.hid (Lok.new Vm 3 #[.int .i64 0])
        clear hbn
        generalize Vm.alloc (.cells #[.int .i64 0] 3) = Vn at *
        rw [zm] at kn
        clear zm zn
        generalize w2.heap.size = gm at *
        have r0 := kr.out.cell (i := 0) rfl
        have r1 := kr.out.cell (i := 1) rfl
        have r2 := kr.out.cell (i := 2) rfl
        have fr0 := kr.out.frozen 0
        have fr1 := kr.out.frozen 1
        have fr2 := kr.out.frozen 2
        go_wp2_with fail
        exact bodyPost_ret (v := .tuple #[.agg #[.int .i64 0, .int .i64 0, .int .i64 0], .int .i64 1]) (by simp [results, Try.results14, go_sem, r0, r1, r2]) rfl ⟨rfl, ((HB.out.setCell (by simp <;> omega) _).setCell (by simp <;> omega) _).setCell (by simp <;> omega) _⟩
      | true =>
        obtain ⟨b0, b1', b2', b3⟩ := w_bd hs ha
        simp only [hs, ha, gV_yes, iE_yes] at WT ⊢
        rw [Bool.and_eq_true, Bool.and_eq_true] at hu
        obtain ⟨⟨u1, u2⟩, u3⟩ := hu
        obtain ⟨p1, p2, p3⟩ := s3_iff.1 u1
        obtain ⟨p4, p5, p6⟩ := s3_iff.1 u2
        obtain ⟨p7, p8, p9⟩ := s3_iff.1 u3
        generalize wA x y a1 a2 b1 b2 c1 c2 = k0 at *
        generalize wB x y a1 a2 b1 b2 c1 c2 = k1 at *
        generalize wC x y a1 a2 b1 b2 c1 c2 = k2 at *
        generalize wW a1 a2 b1 b2 c1 c2 = n at *
        have L0 := Lib.hid (fun ga gb W l1 l2 => weigh_any qa1 qb1 qc1 k0 k1 k2 n b0 b1' b2' b3 p1 p4 p7 ga gb W l1 l2)
        have L1 := Lib.hid (fun ga gb W l1 l2 => weigh_any qa2 qb2 qc2 k0 k1 k2 n b0 b1' b2' b3 p2 p5 p8 ga gb W l1 l2)
        have L2 := Lib.hid (fun ga gb W l1 l2 => weigh_any qa3 qb3 qc3 k0 k1 k2 n b0 b1' b2' b3 p3 p6 p9 ga gb W l1 l2)
        generalize lf k0 k1 k2 n qa1 qb1 qc1 = v0 at *
        generalize lf k0 k1 k2 n qa2 qb2 qc2 = v1 at *
        generalize lf k0 k1 k2 n qa3 qb3 qc3 = v2 at *
        clear hs ha u1 u2 u3 p1 p2 p3 p4 p5 p6 p7 p8 p9 b0 b1' b2' b3
        go_enter Try.func14, Try.ntmps14
        go_upto_region 1 with fail
        have hbp := below_new1 w (.cells #[.int .i64 x, .int .i64 y] 23)
        have zp : (w.alloc (.cells #[.int .i64 x, .int .i64 y] 23)).heap.size = w.heap.size + 1 := by simp
        have HB := Lib.hid hbp
        have kp := Lib.hid (Lok.new w 23 #[.int .i64 x, .int .i64 y])
        clear hbp
        generalize w.alloc (.cells #[.int .i64 x, .int .i64 y] 23) = Vp at *
        have hbt := below_new1 Vp (.cells #[.int .i64 a1, .int .i64 a2, .int .i64 b1, .int .i64 b2, .int .i64 c1, .int .i64 c2] 24)
        replace kp := Lib.hid (kp.out.keep hbt)
        have zt : (Vp.alloc (.cells #[.int .i64 a1, .int .i64 a2, .int .i64 b1, .int .i64 b2, .int .i64 c1, .int .i64 c2] 24)).heap.size = Vp.heap.size + 1 := by simp
        replace HB := Lib.hid (HB.out.trans (hbt.mono HB.out.size))
        have kt := Lib.hid (Lok.new Vp 24 #[.int .i64 a1, .int .i64 a2, .int .i64 b1, .int .i64 b2, .int .i64 c1, .int .i64 c2])
        clear hbt
        generalize Vp.alloc (.cells #[.int .i64 a1, .int .i64 a2, .int .i64 b1, .int .i64 b2, .int .i64 c1, .int .i64 c2] 24) = Vt at *
        rw [zp] at kt zt
        have hbs := below_new1 Vt (.cells #[.int .i64 qa1, .int .i64 qa2, .int .i64 qa3, .int .i64 qb1, .int .i64 qb2, .int .i64 qb3, .int .i64 qc1, .int .i64 qc2, .int .i64 qc3] 27)
        replace kp := Lib.hid (kp.out.keep hbs)
        replace kt := Lib.hid (kt.out.keep hbs)
        have zs : (Vt.alloc (.cells #[.int .i64 qa1, .int .i64 qa2, .int .i64 qa3, .int .i64 qb1, .int .i64 qb2, .int .i64 qb3, .int .i64 qc1, .int .i64 qc2, .int .i64 qc3] 27)).heap.size = Vt.heap.size + 1 := by simp
        replace HB := Lib.hid (HB.out.trans (hbs.mono HB.out.size))
        have ks := Lib.hid (Lok.new Vt 27 #[.int .i64 qa1, .int .i64 qa2, .int .i64 qa3, .int .i64 qb1, .int .i64 qb2, .int .i64 qb3, .int .i64 qc1, .int .i64 qc2, .int .i64 qc3])
        clear hbs
        generalize Vt.alloc (.cells #[.int .i64 qa1, .int .i64 qa2, .int .i64 qa3, .int .i64 qb1, .int .i64 qb2, .int .i64 qb3, .int .i64 qc1, .int .i64 qc2, .int .i64 qc3] 27) = Vs at *
        rw [zt] at ks zs
        have hbr := below_new1 Vs (.cells #[.int .i64 0, .int .i64 0, .int .i64 0] 26)
        replace kp := Lib.hid (kp.out.keep hbr)
        replace kt := Lib.hid (kt.out.keep hbr)
        replace ks := Lib.hid (ks.out.keep hbr)
        have zr : (Vs.alloc (.cells #[.int .i64 0, .int .i64 0, .int .i64 0] 26)).heap.size = Vs.heap.size + 1 := by simp
        replace HB := Lib.hid (HB.out.trans (hbr.mono HB.out.size))
        have kr := Lib.hid (Lok.new Vs 26 #[.int .i64 0, .int .i64 0, .int .i64 0])
        clear hbr
        generalize Vs.alloc (.cells #[.int .i64 0, .int .i64 0, .int .i64 0] 26) = Vr at *
        rw [zs] at kr
        clear zp zt zs zr
        go_wp2_with fail
        (((with_reducible refine (S.out _ _ _ ks.out).mono ?_); rintro e w1 ⟨rfl, hb1⟩); replace HB := Lib.hid (HB.out.trans (hb1.mono HB.out.size)); replace kp := Lib.hid (kp.out.keep hb1); replace kt := Lib.hid (kt.out.keep hb1); replace ks := Lib.hid (ks.out.keep hb1); replace kr := Lib.hid (kr.out.keep hb1); clear hb1)
        have p0 := kp.out.cell (i := 0) rfl
        have p1 := kp.out.cell (i := 1) rfl
        have t0 := kt.out.cell (i := 0) rfl
        have t1 := kt.out.cell (i := 1) rfl
        have t2 := kt.out.cell (i := 2) rfl
        have t3 := kt.out.cell (i := 3) rfl
        have t4 := kt.out.cell (i := 4) rfl
        have t5 := kt.out.cell (i := 5) rfl
        go_wp2_with fail
        clear p0 p1 t0 t1 t2 t3 t4 t5
        (((with_reducible refine (WT.out _).mono ?_); rintro e w2 ⟨rfl, hb2⟩); replace HB := Lib.hid (HB.out.trans (hb2.mono HB.out.size)); replace kp := Lib.hid (kp.out.keep hb2); replace kt := Lib.hid (kt.out.keep hb2); replace ks := Lib.hid (ks.out.keep hb2); replace kr := Lib.hid (kr.out.keep hb2); clear hb2)
        go_upto_region 4 with fail
        have hlt := kr.out.lt
        have hbm := below_new1 w2 (.cells #[.int .i64 k0, .int .i64 k1, .int .i64 k2] 35)
        replace kp := Lib.hid (kp.out.keep hbm)
        replace kt := Lib.hid (kt.out.keep hbm)
        replace ks := Lib.hid (ks.out.keep hbm)
        replace kr := Lib.hid (kr.out.keep hbm)
        have zm : (w2.alloc (.cells #[.int .i64 k0, .int .i64 k1, .int .i64 k2] 35)).heap.size = w2.heap.size + 1 := by simp
        replace HB := Lib.hid (HB.out.trans (hbm.mono HB.out.size))
        have km := Lib.hid (Lok.new w2 35 #[.int .i64 k0, .int .i64 k1, .int .i64 k2])
        clear hbm
        generalize w2.alloc (.cells #[.int .i64 k0, .int .i64 k1, .int .i64 k2] 35) = Vm at *
        have hbn := below_new1 Vm (.cells #[.int .i64 n] 3)
        replace kp := Lib.hid (kp.out.keep hbn)
        replace kt := Lib.hid (kt.out.keep hbn)
        replace ks := Lib.hid (ks.out.keep hbn)
        replace kr := Lib.hid (kr.out.keep hbn)
        replace km := Lib.hid (km.out.keep hbn)
        have zn : (Vm.alloc (.cells #[.int .i64 n] 3)).heap.size = Vm.heap.size + 1 := by simp
        replace HB := Lib.hid (HB.out.trans (hbn.mono HB.out.size))
        have kn := Lib.hid (Lok.new Vm 3 #[.int .i64 n])
        clear hbn
        generalize Vm.alloc (.cells #[.int .i64 n] 3) = Vn at *
        rw [zm] at kn
        clear zm zn
        generalize w2.heap.size = gm at *
        go_upto_region 7 with fail
        have lt1 := kr.out.lt
        have lt2 := km.out.lt
        have o34 := kr.out
        have l1 := km.out
        have l2 := kn.out
        have l3 := ks.out
        have hbound : w.heap.size + 3 ≤ Vn.heap.size := by omega
        refine wp_region_rel (by kernel_rfl) [28, 29, 30, 31, 32, 33, 34, 35, 36, 37, 38, 39, 40, 41, 42, 43, 44, 45, 46, 47, 48, 49, 50, 51, 52, 53, 54, 55, 56, 57, 58, 59, 60, 61, 7] ?Fr1 ?hFr1
          (fun L u W => Below (w.heap.size + 3) Vn W ∧ (L 0 = true → u 28 = .func (.func 33) #[] #[.pointer (some ⟨gm, 0, none⟩), .pointer (some ⟨gm + 1, 0, none⟩)]) ∧ (L 1 = true → u 29 = .pointer (some ⟨w.heap.size + 2, 0, none⟩)) ∧ (L 2 = true → u 30 = .pointer (some ⟨w.heap.size + 2, 0, none⟩)) ∧ (L 3 = true → u 31 = .int .i64 qa1) ∧ (L 4 = true → u 32 = .pointer (some ⟨w.heap.size + 2, 3, none⟩)) ∧ (L 5 = true → u 33 = .pointer (some ⟨w.heap.size + 2, 3, none⟩)) ∧ (L 6 = true → u 34 = .int .i64 qb1) ∧ (L 7 = true → u 35 = .pointer (some ⟨w.heap.size + 2, 6, none⟩)) ∧ (L 8 = true → u 36 = .pointer (some ⟨w.heap.size + 2, 6, none⟩)) ∧ (L 9 = true → u 37 = .int .i64 qc1) ∧ (L 10 = true → u 38 = .int .i64 v0) ∧ (L 11 = true → u 39 = .func (.func 33) #[] #[.pointer (some ⟨gm, 0, none⟩), .pointer (some ⟨gm + 1, 0, none⟩)]) ∧ (L 12 = true → u 40 = .pointer (some ⟨w.heap.size + 2, 0, none⟩)) ∧ (L 13 = true → u 41 = .pointer (some ⟨w.heap.size + 2, 1, none⟩)) ∧ (L 14 = true → u 42 = .int .i64 qa2) ∧ (L 15 = true → u 43 = .pointer (some ⟨w.heap.size + 2, 3, none⟩)) ∧ (L 16 = true → u 44 = .pointer (some ⟨w.heap.size + 2, 4, none⟩)) ∧ (L 17 = true → u 45 = .int .i64 qb2) ∧ (L 18 = true → u 46 = .pointer (some ⟨w.heap.size + 2, 6, none⟩)) ∧ (L 19 = true → u 47 = .pointer (some ⟨w.heap.size + 2, 7, none⟩)) ∧ (L 20 = true → u 48 = .int .i64 qc2) ∧ (L 21 = true → u 49 = .int .i64 v1) ∧ (L 22 = true → u 50 = .func (.func 33) #[] #[.pointer (some ⟨gm, 0, none⟩), .pointer (some ⟨gm + 1, 0, none⟩)]) ∧ (L 23 = true → u 51 = .pointer (some ⟨w.heap.size + 2, 0, none⟩)) ∧ (L 24 = true → u 52 = .pointer (some ⟨w.heap.size + 2, 2, none⟩)) ∧ (L 25 = true → u 53 = .int .i64 qa3) ∧ (L 26 = true → u 54 = .pointer (some ⟨w.heap.size + 2, 3, none⟩)) ∧ (L 27 = true → u 55 = .pointer (some ⟨w.heap.size + 2, 5, none⟩)) ∧ (L 28 = true → u 56 = .int .i64 qb3) ∧ (L 29 = true → u 57 = .pointer (some ⟨w.heap.size + 2, 6, none⟩)) ∧ (L 30 = true → u 58 = .pointer (some ⟨w.heap.size + 2, 8, none⟩)) ∧ (L 31 = true → u 59 = .int .i64 qc3) ∧ (L 32 = true → u 60 = .int .i64 v2) ∧ (L 33 = true → u 61 = .agg #[.int .i64 v0, .int .i64 v1, .int .i64 v2]) ∧ (L 35 = true → u 7 = .int .i64 0) ∧ (L 34 = false → Lok W (w.heap.size + 3) 26 #[.int .i64 0, .int .i64 0, .int .i64 0]) ∧ (L 34 = true → Lok W (w.heap.size + 3) 26 #[.int .i64 v0, .int .i64 v1, .int .i64 v2]) ∧ Lok W (gm) 35 #[.int .i64 k0, .int .i64 k1, .int .i64 k2] ∧ Lok W (gm + 1) 3 #[.int .i64 n] ∧ Lok W (w.heap.size + 2) 27 #[.int .i64 qa1, .int .i64 qa2, .int .i64 qa3, .int .i64 qb1, .int .i64 qb2, .int .i64 qb3, .int .i64 qc1, .int .i64 qc2, .int .i64 qc3]) (by kernel_rfl) (by kernel_rfl) 36 rfl ?h0r1 ?stepr1 ?finr1
        case hFr1 => intro u; simp only [putAll, Act.put, List.setIfInBounds_toArray, List.set]; exact rfl
        case h0r1 => intro L u hL; exact ⟨(Below.refl _ _).drew, (fun h => by simp [hL] at h), (fun h => by simp [hL] at h), (fun h => by simp [hL] at h), (fun h => by simp [hL] at h), (fun h => by simp [hL] at h), (fun h => by simp [hL] at h), (fun h => by simp [hL] at h), (fun h => by simp [hL] at h), (fun h => by simp [hL] at h), (fun h => by simp [hL] at h), (fun h => by simp [hL] at h), (fun h => by simp [hL] at h), (fun h => by simp [hL] at h), (fun h => by simp [hL] at h), (fun h => by simp [hL] at h), (fun h => by simp [hL] at h), (fun h => by simp [hL] at h), (fun h => by simp [hL] at h), (fun h => by simp [hL] at h), (fun h => by simp [hL] at h), (fun h => by simp [hL] at h), (fun h => by simp [hL] at h), (fun h => by simp [hL] at h), (fun h => by simp [hL] at h), (fun h => by simp [hL] at h), (fun h => by simp [hL] at h), (fun h => by simp [hL] at h), (fun h => by simp [hL] at h), (fun h => by simp [hL] at h), (fun h => by simp [hL] at h), (fun h => by simp [hL] at h), (fun h => by simp [hL] at h), (fun h => by simp [hL] at h), (fun h => by simp [hL] at h), (fun h => by simp [hL] at h), (fun _ => by assumption), (fun h => by simp [hL] at h), (by first | assumption | (apply Lok.drew; assumption)), (by first | assumption | (apply Lok.drew; assumption)), (by first | assumption | (apply Lok.drew; assumption))⟩
        case stepr1 =>
          refine ops_all (ops_cons ?s0r1 (ops_cons ?s1r1 (ops_cons ?s2r1 (ops_cons ?s3r1 (ops_cons ?s4r1 (ops_cons ?s5r1 (ops_cons ?s6r1 (ops_cons ?s7r1 (ops_cons ?s8r1 (ops_cons ?s9r1 (ops_cons ?s10r1 (ops_cons ?s11r1 (ops_cons ?s12r1 (ops_cons ?s13r1 (ops_cons ?s14r1 (ops_cons ?s15r1 (ops_cons ?s16r1 (ops_cons ?s17r1 (ops_cons ?s18r1 (ops_cons ?s19r1 (ops_cons ?s20r1 (ops_cons ?s21r1 (ops_cons ?s22r1 (ops_cons ?s23r1 (ops_cons ?s24r1 (ops_cons ?s25r1 (ops_cons ?s26r1 (ops_cons ?s27r1 (ops_cons ?s28r1 (ops_cons ?s29r1 (ops_cons ?s30r1 (ops_cons ?s31r1 (ops_cons ?s32r1 (ops_cons ?s33r1 (ops_cons ?s34r1 (ops_cons ?s35r1 (ops_nil)))))))))))))))))))))))))))))))))))))
          case s0r1 =>
            rintro L u W ⟨hB, c0, c1, c2, c3, c4, c5, c6, c7, c8, c9, c10, c11, c12, c13, c14, c15, c16, c17, c18, c19, c20, c21, c22, c23, c24, c25, c26, c27, c28, c29, c30, c31, c32, c33, c35, o34, wn34, lk1, lk2, lk3⟩ hf hd K hK
            dsimp only at hK
            clear hd
            go_simp
            refine hK _ _ ?_ (fun h => by cases h)
            intro s hs
            cases hs
            exact ⟨hB, (fun _ => rfl), c1, c2, c3, c4, c5, c6, c7, c8, c9, c10, c11, c12, c13, c14, c15, c16, c17, c18, c19, c20, c21, c22, c23, c24, c25, c26, c27, c28, c29, c30, c31, c32, c33, c35, o34, wn34, lk1, lk2, lk3⟩
          case s1r1 =>
            rintro L u W ⟨hB, c0, c1, c2, c3, c4, c5, c6, c7, c8, c9, c10, c11, c12, c13, c14, c15, c16, c17, c18, c19, c20, c21, c22, c23, c24, c25, c26, c27, c28, c29, c30, c31, c32, c33, c35, o34, wn34, lk1, lk2, lk3⟩ hf hd K hK
            dsimp only at hK
            clear hd
            go_simp
            refine hK _ _ ?_ (fun h => by cases h)
            intro s hs
            cases hs
            exact ⟨hB, c0, (fun _ => rfl), c2, c3, c4, c5, c6, c7, c8, c9, c10, c11, c12, c13, c14, c15, c16, c17, c18, c19, c20, c21, c22, c23, c24, c25, c26, c27, c28, c29, c30, c31, c32, c33, c35, o34, wn34, lk1, lk2, lk3⟩
          case s2r1 =>
            rintro L u W ⟨hB, c0, c1, c2, c3, c4, c5, c6, c7, c8, c9, c10, c11, c12, c13, c14, c15, c16, c17, c18, c19, c20, c21, c22, c23, c24, c25, c26, c27, c28, c29, c30, c31, c32, c33, c35, o34, wn34, lk1, lk2, lk3⟩ hf hd K hK
            dsimp only at hK
            have hd1 : L 1 = true := (by first | (refine hd ⟨1, .data⟩ ?_ rfl; simp; done) | (refine hd ⟨1, .guard⟩ ?_ rfl; simp; done) | (refine hd ⟨1, .phase⟩ ?_ rfl; simp; done) | (refine hd ⟨1, .chain⟩ ?_ rfl; simp; done))
            have e1 := c1 hd1
            rw [e1] at hK
            clear hd1
            clear hd
            go_simp
            refine hK _ _ ?_ (fun h => by cases h)
            intro s hs
            cases hs
            exact ⟨hB, c0, c1, (fun _ => rfl), c3, c4, c5, c6, c7, c8, c9, c10, c11, c12, c13, c14, c15, c16, c17, c18, c19, c20, c21, c22, c23, c24, c25, c26, c27, c28, c29, c30, c31, c32, c33, c35, o34, wn34, lk1, lk2, lk3⟩
          case s3r1 =>
            rintro L u W ⟨hB, c0, c1, c2, c3, c4, c5, c6, c7, c8, c9, c10, c11, c12, c13, c14, c15, c16, c17, c18, c19, c20, c21, c22, c23, c24, c25, c26, c27, c28, c29, c30, c31, c32, c33, c35, o34, wn34, lk1, lk2, lk3⟩ hf hd K hK
            dsimp only at hK
            have hd2 : L 2 = true := (by first | (refine hd ⟨2, .data⟩ ?_ rfl; simp; done) | (refine hd ⟨2, .guard⟩ ?_ rfl; simp; done) | (refine hd ⟨2, .phase⟩ ?_ rfl; simp; done) | (refine hd ⟨2, .chain⟩ ?_ rfl; simp; done))
            have e2 := c2 hd2
            rw [e2] at hK
            have t0 := lk3.cell (i := 0) rfl
            clear hd2
            clear hd
            go_simp
            refine hK _ _ ?_ (fun h => by cases h)
            intro s hs
            cases hs
            exact ⟨hB, c0, c1, c2, (fun _ => rfl), c4, c5, c6, c7, c8, c9, c10, c11, c12, c13, c14, c15, c16, c17, c18, c19, c20, c21, c22, c23, c24, c25, c26, c27, c28, c29, c30, c31, c32, c33, c35, o34, wn34, lk1, lk2, lk3⟩
          case s4r1 =>
            rintro L u W ⟨hB, c0, c1, c2, c3, c4, c5, c6, c7, c8, c9, c10, c11, c12, c13, c14, c15, c16, c17, c18, c19, c20, c21, c22, c23, c24, c25, c26, c27, c28, c29, c30, c31, c32, c33, c35, o34, wn34, lk1, lk2, lk3⟩ hf hd K hK
            dsimp only at hK
            clear hd
            go_simp
            refine hK _ _ ?_ (fun h => by cases h)
            intro s hs
            cases hs
            exact ⟨hB, c0, c1, c2, c3, (fun _ => rfl), c5, c6, c7, c8, c9, c10, c11, c12, c13, c14, c15, c16, c17, c18, c19, c20, c21, c22, c23, c24, c25, c26, c27, c28, c29, c30, c31, c32, c33, c35, o34, wn34, lk1, lk2, lk3⟩
          case s5r1 =>
            rintro L u W ⟨hB, c0, c1, c2, c3, c4, c5, c6, c7, c8, c9, c10, c11, c12, c13, c14, c15, c16, c17, c18, c19, c20, c21, c22, c23, c24, c25, c26, c27, c28, c29, c30, c31, c32, c33, c35, o34, wn34, lk1, lk2, lk3⟩ hf hd K hK
            dsimp only at hK
            have hd4 : L 4 = true := (by first | (refine hd ⟨4, .data⟩ ?_ rfl; simp; done) | (refine hd ⟨4, .guard⟩ ?_ rfl; simp; done) | (refine hd ⟨4, .phase⟩ ?_ rfl; simp; done) | (refine hd ⟨4, .chain⟩ ?_ rfl; simp; done))
            have e4 := c4 hd4
            rw [e4] at hK
            clear hd4
            clear hd
            go_simp
            refine hK _ _ ?_ (fun h => by cases h)
            intro s hs
            cases hs
            exact ⟨hB, c0, c1, c2, c3, c4, (fun _ => rfl), c6, c7, c8, c9, c10, c11, c12, c13, c14, c15, c16, c17, c18, c19, c20, c21, c22, c23, c24, c25, c26, c27, c28, c29, c30, c31, c32, c33, c35, o34, wn34, lk1, lk2, lk3⟩
          case s6r1 =>
            rintro L u W ⟨hB, c0, c1, c2, c3, c4, c5, c6, c7, c8, c9, c10, c11, c12, c13, c14, c15, c16, c17, c18, c19, c20, c21, c22, c23, c24, c25, c26, c27, c28, c29, c30, c31, c32, c33, c35, o34, wn34, lk1, lk2, lk3⟩ hf hd K hK
            dsimp only at hK
            have hd5 : L 5 = true := (by first | (refine hd ⟨5, .data⟩ ?_ rfl; simp; done) | (refine hd ⟨5, .guard⟩ ?_ rfl; simp; done) | (refine hd ⟨5, .phase⟩ ?_ rfl; simp; done) | (refine hd ⟨5, .chain⟩ ?_ rfl; simp; done))
            have e5 := c5 hd5
            rw [e5] at hK
            have t0 := lk3.cell (i := 3) rfl
            clear hd5
            clear hd
            go_simp
            refine hK _ _ ?_ (fun h => by cases h)
            intro s hs
            cases hs
            exact ⟨hB, c0, c1, c2, c3, c4, c5, (fun _ => rfl), c7, c8, c9, c10, c11, c12, c13, c14, c15, c16, c17, c18, c19, c20, c21, c22, c23, c24, c25, c26, c27, c28, c29, c30, c31, c32, c33, c35, o34, wn34, lk1, lk2, lk3⟩
          case s7r1 =>
            rintro L u W ⟨hB, c0, c1, c2, c3, c4, c5, c6, c7, c8, c9, c10, c11, c12, c13, c14, c15, c16, c17, c18, c19, c20, c21, c22, c23, c24, c25, c26, c27, c28, c29, c30, c31, c32, c33, c35, o34, wn34, lk1, lk2, lk3⟩ hf hd K hK
            dsimp only at hK
            clear hd
            go_simp
            refine hK _ _ ?_ (fun h => by cases h)
            intro s hs
            cases hs
            exact ⟨hB, c0, c1, c2, c3, c4, c5, c6, (fun _ => rfl), c8, c9, c10, c11, c12, c13, c14, c15, c16, c17, c18, c19, c20, c21, c22, c23, c24, c25, c26, c27, c28, c29, c30, c31, c32, c33, c35, o34, wn34, lk1, lk2, lk3⟩
          case s8r1 =>
            rintro L u W ⟨hB, c0, c1, c2, c3, c4, c5, c6, c7, c8, c9, c10, c11, c12, c13, c14, c15, c16, c17, c18, c19, c20, c21, c22, c23, c24, c25, c26, c27, c28, c29, c30, c31, c32, c33, c35, o34, wn34, lk1, lk2, lk3⟩ hf hd K hK
            dsimp only at hK
            have hd7 : L 7 = true := (by first | (refine hd ⟨7, .data⟩ ?_ rfl; simp; done) | (refine hd ⟨7, .guard⟩ ?_ rfl; simp; done) | (refine hd ⟨7, .phase⟩ ?_ rfl; simp; done) | (refine hd ⟨7, .chain⟩ ?_ rfl; simp; done))
            have e7 := c7 hd7
            rw [e7] at hK
            clear hd7
            clear hd
            go_simp
            refine hK _ _ ?_ (fun h => by cases h)
            intro s hs
            cases hs
            exact ⟨hB, c0, c1, c2, c3, c4, c5, c6, c7, (fun _ => rfl), c9, c10, c11, c12, c13, c14, c15, c16, c17, c18, c19, c20, c21, c22, c23, c24, c25, c26, c27, c28, c29, c30, c31, c32, c33, c35, o34, wn34, lk1, lk2, lk3⟩
          case s9r1 =>
            rintro L u W ⟨hB, c0, c1, c2, c3, c4, c5, c6, c7, c8, c9, c10, c11, c12, c13, c14, c15, c16, c17, c18, c19, c20, c21, c22, c23, c24, c25, c26, c27, c28, c29, c30, c31, c32, c33, c35, o34, wn34, lk1, lk2, lk3⟩ hf hd K hK
            dsimp only at hK
            have hd8 : L 8 = true := (by first | (refine hd ⟨8, .data⟩ ?_ rfl; simp; done) | (refine hd ⟨8, .guard⟩ ?_ rfl; simp; done) | (refine hd ⟨8, .phase⟩ ?_ rfl; simp; done) | (refine hd ⟨8, .chain⟩ ?_ rfl; simp; done))
            have e8 := c8 hd8
            rw [e8] at hK
            have t0 := lk3.cell (i := 6) rfl
            clear hd8
            clear hd
            go_simp
            refine hK _ _ ?_ (fun h => by cases h)
            intro s hs
            cases hs
            exact ⟨hB, c0, c1, c2, c3, c4, c5, c6, c7, c8, (fun _ => rfl), c10, c11, c12, c13, c14, c15, c16, c17, c18, c19, c20, c21, c22, c23, c24, c25, c26, c27, c28, c29, c30, c31, c32, c33, c35, o34, wn34, lk1, lk2, lk3⟩
          case s10r1 =>
            rintro L u W ⟨hB, c0, c1, c2, c3, c4, c5, c6, c7, c8, c9, c10, c11, c12, c13, c14, c15, c16, c17, c18, c19, c20, c21, c22, c23, c24, c25, c26, c27, c28, c29, c30, c31, c32, c33, c35, o34, wn34, lk1, lk2, lk3⟩ hf hd K hK
            dsimp only at hK
            have hd0 : L 0 = true := (by first | (refine hd ⟨0, .data⟩ ?_ rfl; simp; done) | (refine hd ⟨0, .guard⟩ ?_ rfl; simp; done) | (refine hd ⟨0, .phase⟩ ?_ rfl; simp; done) | (refine hd ⟨0, .chain⟩ ?_ rfl; simp; done))
            have hd3 : L 3 = true := (by first | (refine hd ⟨3, .data⟩ ?_ rfl; simp; done) | (refine hd ⟨3, .guard⟩ ?_ rfl; simp; done) | (refine hd ⟨3, .phase⟩ ?_ rfl; simp; done) | (refine hd ⟨3, .chain⟩ ?_ rfl; simp; done))
            have hd6 : L 6 = true := (by first | (refine hd ⟨6, .data⟩ ?_ rfl; simp; done) | (refine hd ⟨6, .guard⟩ ?_ rfl; simp; done) | (refine hd ⟨6, .phase⟩ ?_ rfl; simp; done) | (refine hd ⟨6, .chain⟩ ?_ rfl; simp; done))
            have hd9 : L 9 = true := (by first | (refine hd ⟨9, .data⟩ ?_ rfl; simp; done) | (refine hd ⟨9, .guard⟩ ?_ rfl; simp; done) | (refine hd ⟨9, .phase⟩ ?_ rfl; simp; done) | (refine hd ⟨9, .chain⟩ ?_ rfl; simp; done))
            have e0 := c0 hd0
            rw [e0] at hK
            have e3 := c3 hd3
            rw [e3] at hK
            have e6 := c6 hd6
            rw [e6] at hK
            have e9 := c9 hd9
            rw [e9] at hK
            clear hd0
            clear hd3
            clear hd6
            clear hd9
            clear hd
            go_simp
            go_wp2_with (go_at_call 33; ((with_reducible refine (L0.out _ _ _ lk1 lk2).mono ?_); rintro e w5 ⟨rfl, hb⟩))
            refine hK _ _ ?_ (fun h => by cases h)
            intro s hs
            cases hs
            exact ⟨hB.trans (hb.mono (Nat.le_trans hbound hB.size)), c0, c1, c2, c3, c4, c5, c6, c7, c8, c9, (fun _ => rfl), c11, c12, c13, c14, c15, c16, c17, c18, c19, c20, c21, c22, c23, c24, c25, c26, c27, c28, c29, c30, c31, c32, c33, c35, (fun h => (o34 h).keep hb), (fun h => (wn34 h).keep hb), (lk1.keep hb), (lk2.keep hb), (lk3.keep hb)⟩
          case s11r1 =>
            rintro L u W ⟨hB, c0, c1, c2, c3, c4, c5, c6, c7, c8, c9, c10, c11, c12, c13, c14, c15, c16, c17, c18, c19, c20, c21, c22, c23, c24, c25, c26, c27, c28, c29, c30, c31, c32, c33, c35, o34, wn34, lk1, lk2, lk3⟩ hf hd K hK
            dsimp only at hK
            clear hd
            go_simp
            refine hK _ _ ?_ (fun h => by cases h)
            intro s hs
            cases hs
            exact ⟨hB, c0, c1, c2, c3, c4, c5, c6, c7, c8, c9, c10, (fun _ => rfl), c12, c13, c14, c15, c16, c17, c18, c19, c20, c21, c22, c23, c24, c25, c26, c27, c28, c29, c30, c31, c32, c33, c35, o34, wn34, lk1, lk2, lk3⟩
          case s12r1 =>
            rintro L u W ⟨hB, c0, c1, c2, c3, c4, c5, c6, c7, c8, c9, c10, c11, c12, c13, c14, c15, c16, c17, c18, c19, c20, c21, c22, c23, c24, c25, c26, c27, c28, c29, c30, c31, c32, c33, c35, o34, wn34, lk1, lk2, lk3⟩ hf hd K hK
            dsimp only at hK
            clear hd
            go_simp
            refine hK _ _ ?_ (fun h => by cases h)
            intro s hs
            cases hs
            exact ⟨hB, c0, c1, c2, c3, c4, c5, c6, c7, c8, c9, c10, c11, (fun _ => rfl), c13, c14, c15, c16, c17, c18, c19, c20, c21, c22, c23, c24, c25, c26, c27, c28, c29, c30, c31, c32, c33, c35, o34, wn34, lk1, lk2, lk3⟩
          case s13r1 =>
            rintro L u W ⟨hB, c0, c1, c2, c3, c4, c5, c6, c7, c8, c9, c10, c11, c12, c13, c14, c15, c16, c17, c18, c19, c20, c21, c22, c23, c24, c25, c26, c27, c28, c29, c30, c31, c32, c33, c35, o34, wn34, lk1, lk2, lk3⟩ hf hd K hK
            dsimp only at hK
            have hd12 : L 12 = true := (by first | (refine hd ⟨12, .data⟩ ?_ rfl; simp; done) | (refine hd ⟨12, .guard⟩ ?_ rfl; simp; done) | (refine hd ⟨12, .phase⟩ ?_ rfl; simp; done) | (refine hd ⟨12, .chain⟩ ?_ rfl; simp; done))
            have e12 := c12 hd12
            rw [e12] at hK
            clear hd12
            clear hd
            go_simp
            refine hK _ _ ?_ (fun h => by cases h)
            intro s hs
            cases hs
            exact ⟨hB, c0, c1, c2, c3, c4, c5, c6, c7, c8, c9, c10, c11, c12, (fun _ => rfl), c14, c15, c16, c17, c18, c19, c20, c21, c22, c23, c24, c25, c26, c27, c28, c29, c30, c31, c32, c33, c35, o34, wn34, lk1, lk2, lk3⟩
          case s14r1 =>
            rintro L u W ⟨hB, c0, c1, c2, c3, c4, c5, c6, c7, c8, c9, c10, c11, c12, c13, c14, c15, c16, c17, c18, c19, c20, c21, c22, c23, c24, c25, c26, c27, c28, c29, c30, c31, c32, c33, c35, o34, wn34, lk1, lk2, lk3⟩ hf hd K hK
            dsimp only at hK
            have hd13 : L 13 = true := (by first | (refine hd ⟨13, .data⟩ ?_ rfl; simp; done) | (refine hd ⟨13, .guard⟩ ?_ rfl; simp; done) | (refine hd ⟨13, .phase⟩ ?_ rfl; simp; done) | (refine hd ⟨13, .chain⟩ ?_ rfl; simp; done))
            have e13 := c13 hd13
            rw [e13] at hK
            have t0 := lk3.cell (i := 1) rfl
            clear hd13
            clear hd
            go_simp
            refine hK _ _ ?_ (fun h => by cases h)
            intro s hs
            cases hs
            exact ⟨hB, c0, c1, c2, c3, c4, c5, c6, c7, c8, c9, c10, c11, c12, c13, (fun _ => rfl), c15, c16, c17, c18, c19, c20, c21, c22, c23, c24, c25, c26, c27, c28, c29, c30, c31, c32, c33, c35, o34, wn34, lk1, lk2, lk3⟩
          case s15r1 =>
            rintro L u W ⟨hB, c0, c1, c2, c3, c4, c5, c6, c7, c8, c9, c10, c11, c12, c13, c14, c15, c16, c17, c18, c19, c20, c21, c22, c23, c24, c25, c26, c27, c28, c29, c30, c31, c32, c33, c35, o34, wn34, lk1, lk2, lk3⟩ hf hd K hK
            dsimp only at hK
            clear hd
            go_simp
            refine hK _ _ ?_ (fun h => by cases h)
            intro s hs
            cases hs
            exact ⟨hB, c0, c1, c2, c3, c4, c5, c6, c7, c8, c9, c10, c11, c12, c13, c14, (fun _ => rfl), c16, c17, c18, c19, c20, c21, c22, c23, c24, c25, c26, c27, c28, c29, c30, c31, c32, c33, c35, o34, wn34, lk1, lk2, lk3⟩
          case s16r1 =>
            rintro L u W ⟨hB, c0, c1, c2, c3, c4, c5, c6, c7, c8, c9, c10, c11, c12, c13, c14, c15, c16, c17, c18, c19, c20, c21, c22, c23, c24, c25, c26, c27, c28, c29, c30, c31, c32, c33, c35, o34, wn34, lk1, lk2, lk3⟩ hf hd K hK
            dsimp only at hK
            have hd15 : L 15 = true := (by first | (refine hd ⟨15, .data⟩ ?_ rfl; simp; done) | (refine hd ⟨15, .guard⟩ ?_ rfl; simp; done) | (refine hd ⟨15, .phase⟩ ?_ rfl; simp; done) | (refine hd ⟨15, .chain⟩ ?_ rfl; simp; done))
            have e15 := c15 hd15
            rw [e15] at hK
            clear hd15
            clear hd
            go_simp
            refine hK _ _ ?_ (fun h => by cases h)
            intro s hs
            cases hs
            exact ⟨hB, c0, c1, c2, c3, c4, c5, c6, c7, c8, c9, c10, c11, c12, c13, c14, c15, (fun _ => rfl), c17, c18, c19, c20, c21, c22, c23, c24, c25, c26, c27, c28, c29, c30, c31, c32, c33, c35, o34, wn34, lk1, lk2, lk3⟩
          case s17r1 =>
            rintro L u W ⟨hB, c0, c1, c2, c3, c4, c5, c6, c7, c8, c9, c10, c11, c12, c13, c14, c15, c16, c17, c18, c19, c20, c21, c22, c23, c24, c25, c26, c27, c28, c29, c30, c31, c32, c33, c35, o34, wn34, lk1, lk2, lk3⟩ hf hd K hK
            dsimp only at hK
            have hd16 : L 16 = true := (by first | (refine hd ⟨16, .data⟩ ?_ rfl; simp; done) | (refine hd ⟨16, .guard⟩ ?_ rfl; simp; done) | (refine hd ⟨16, .phase⟩ ?_ rfl; simp; done) | (refine hd ⟨16, .chain⟩ ?_ rfl; simp; done))
            have e16 := c16 hd16
            rw [e16] at hK
            have t0 := lk3.cell (i := 4) rfl
            clear hd16
            clear hd
            go_simp
            refine hK _ _ ?_ (fun h => by cases h)
            intro s hs
            cases hs
            exact ⟨hB, c0, c1, c2, c3, c4, c5, c6, c7, c8, c9, c10, c11, c12, c13, c14, c15, c16, (fun _ => rfl), c18, c19, c20, c21, c22, c23, c24, c25, c26, c27, c28, c29, c30, c31, c32, c33, c35, o34, wn34, lk1, lk2, lk3⟩
          case s18r1 =>
            rintro L u W ⟨hB, c0, c1, c2, c3, c4, c5, c6, c7, c8, c9, c10, c11, c12, c13, c14, c15, c16, c17, c18, c19, c20, c21, c22, c23, c24, c25, c26, c27, c28, c29, c30, c31, c32, c33, c35, o34, wn34, lk1, lk2, lk3⟩ hf hd K hK
            dsimp only at hK
            clear hd
            go_simp
            refine hK _ _ ?_ (fun h => by cases h)
            intro s hs
            cases hs
            exact ⟨hB, c0, c1, c2, c3, c4, c5, c6, c7, c8, c9, c10, c11, c12, c13, c14, c15, c16, c17, (fun _ => rfl), c19, c20, c21, c22, c23, c24, c25, c26, c27, c28, c29, c30, c31, c32, c33, c35, o34, wn34, lk1, lk2, lk3⟩
          case s19r1 =>
            rintro L u W ⟨hB, c0, c1, c2, c3, c4, c5, c6, c7, c8, c9, c10, c11, c12, c13, c14, c15, c16, c17, c18, c19, c20, c21, c22, c23, c24, c25, c26, c27, c28, c29, c30, c31, c32, c33, c35, o34, wn34, lk1, lk2, lk3⟩ hf hd K hK
            dsimp only at hK
            have hd18 : L 18 = true := (by first | (refine hd ⟨18, .data⟩ ?_ rfl; simp; done) | (refine hd ⟨18, .guard⟩ ?_ rfl; simp; done) | (refine hd ⟨18, .phase⟩ ?_ rfl; simp; done) | (refine hd ⟨18, .chain⟩ ?_ rfl; simp; done))
            have e18 := c18 hd18
            rw [e18] at hK
            clear hd18
            clear hd
            go_simp
            refine hK _ _ ?_ (fun h => by cases h)
            intro s hs
            cases hs
            exact ⟨hB, c0, c1, c2, c3, c4, c5, c6, c7, c8, c9, c10, c11, c12, c13, c14, c15, c16, c17, c18, (fun _ => rfl), c20, c21, c22, c23, c24, c25, c26, c27, c28, c29, c30, c31, c32, c33, c35, o34, wn34, lk1, lk2, lk3⟩
          case s20r1 =>
            rintro L u W ⟨hB, c0, c1, c2, c3, c4, c5, c6, c7, c8, c9, c10, c11, c12, c13, c14, c15, c16, c17, c18, c19, c20, c21, c22, c23, c24, c25, c26, c27, c28, c29, c30, c31, c32, c33, c35, o34, wn34, lk1, lk2, lk3⟩ hf hd K hK
            dsimp only at hK
            have hd19 : L 19 = true := (by first | (refine hd ⟨19, .data⟩ ?_ rfl; simp; done) | (refine hd ⟨19, .guard⟩ ?_ rfl; simp; done) | (refine hd ⟨19, .phase⟩ ?_ rfl; simp; done) | (refine hd ⟨19, .chain⟩ ?_ rfl; simp; done))
            have e19 := c19 hd19
            rw [e19] at hK
            have t0 := lk3.cell (i := 7) rfl
            clear hd19
            clear hd
            go_simp
            refine hK _ _ ?_ (fun h => by cases h)
            intro s hs
            cases hs
            exact ⟨hB, c0, c1, c2, c3, c4, c5, c6, c7, c8, c9, c10, c11, c12, c13, c14, c15, c16, c17, c18, c19, (fun _ => rfl), c21, c22, c23, c24, c25, c26, c27, c28, c29, c30, c31, c32, c33, c35, o34, wn34, lk1, lk2, lk3⟩
          case s21r1 =>
            rintro L u W ⟨hB, c0, c1, c2, c3, c4, c5, c6, c7, c8, c9, c10, c11, c12, c13, c14, c15, c16, c17, c18, c19, c20, c21, c22, c23, c24, c25, c26, c27, c28, c29, c30, c31, c32, c33, c35, o34, wn34, lk1, lk2, lk3⟩ hf hd K hK
            dsimp only at hK
            have hd11 : L 11 = true := (by first | (refine hd ⟨11, .data⟩ ?_ rfl; simp; done) | (refine hd ⟨11, .guard⟩ ?_ rfl; simp; done) | (refine hd ⟨11, .phase⟩ ?_ rfl; simp; done) | (refine hd ⟨11, .chain⟩ ?_ rfl; simp; done))
            have hd14 : L 14 = true := (by first | (refine hd ⟨14, .data⟩ ?_ rfl; simp; done) | (refine hd ⟨14, .guard⟩ ?_ rfl; simp; done) | (refine hd ⟨14, .phase⟩ ?_ rfl; simp; done) | (refine hd ⟨14, .chain⟩ ?_ rfl; simp; done))
            have hd17 : L 17 = true := (by first | (refine hd ⟨17, .data⟩ ?_ rfl; simp; done) | (refine hd ⟨17, .guard⟩ ?_ rfl; simp; done) | (refine hd ⟨17, .phase⟩ ?_ rfl; simp; done) | (refine hd ⟨17, .chain⟩ ?_ rfl; simp; done))
            have hd20 : L 20 = true := (by first | (refine hd ⟨20, .data⟩ ?_ rfl; simp; done) | (refine hd ⟨20, .guard⟩ ?_ rfl; simp; done) | (refine hd ⟨20, .phase⟩ ?_ rfl; simp; done) | (refine hd ⟨20, .chain⟩ ?_ rfl; simp; done))
            have e11 := c11 hd11
            rw [e11] at hK
            have e14 := c14 hd14
            rw [e14] at hK
            have e17 := c17 hd17
            rw [e17] at hK
            have e20 := c20 hd20
            rw [e20] at hK
            clear hd11
            clear hd14
            clear hd17
            clear hd20
            clear hd
            go_simp
            go_wp2_with (go_at_call 33; ((with_reducible refine (L1.out _ _ _ lk1 lk2).mono ?_); rintro e w5 ⟨rfl, hb⟩))
            refine hK _ _ ?_ (fun h => by cases h)
            intro s hs
            cases hs
            exact ⟨hB.trans (hb.mono (Nat.le_trans hbound hB.size)), c0, c1, c2, c3, c4, c5, c6, c7, c8, c9, c10, c11, c12, c13, c14, c15, c16, c17, c18, c19, c20, (fun _ => rfl), c22, c23, c24, c25, c26, c27, c28, c29, c30, c31, c32, c33, c35, (fun h => (o34 h).keep hb), (fun h => (wn34 h).keep hb), (lk1.keep hb), (lk2.keep hb), (lk3.keep hb)⟩
          case s22r1 =>
            rintro L u W ⟨hB, c0, c1, c2, c3, c4, c5, c6, c7, c8, c9, c10, c11, c12, c13, c14, c15, c16, c17, c18, c19, c20, c21, c22, c23, c24, c25, c26, c27, c28, c29, c30, c31, c32, c33, c35, o34, wn34, lk1, lk2, lk3⟩ hf hd K hK
            dsimp only at hK
            clear hd
            go_simp
            refine hK _ _ ?_ (fun h => by cases h)
            intro s hs
            cases hs
            exact ⟨hB, c0, c1, c2, c3, c4, c5, c6, c7, c8, c9, c10, c11, c12, c13, c14, c15, c16, c17, c18, c19, c20, c21, (fun _ => rfl), c23, c24, c25, c26, c27, c28, c29, c30, c31, c32, c33, c35, o34, wn34, lk1, lk2, lk3⟩
          case s23r1 =>
            rintro L u W ⟨hB, c0, c1, c2, c3, c4, c5, c6, c7, c8, c9, c10, c11, c12, c13, c14, c15, c16, c17, c18, c19, c20, c21, c22, c23, c24, c25, c26, c27, c28, c29, c30, c31, c32, c33, c35, o34, wn34, lk1, lk2, lk3⟩ hf hd K hK
            dsimp only at hK
            clear hd
            go_simp
            refine hK _ _ ?_ (fun h => by cases h)
            intro s hs
            cases hs
            exact ⟨hB, c0, c1, c2, c3, c4, c5, c6, c7, c8, c9, c10, c11, c12, c13, c14, c15, c16, c17, c18, c19, c20, c21, c22, (fun _ => rfl), c24, c25, c26, c27, c28, c29, c30, c31, c32, c33, c35, o34, wn34, lk1, lk2, lk3⟩
          case s24r1 =>
            rintro L u W ⟨hB, c0, c1, c2, c3, c4, c5, c6, c7, c8, c9, c10, c11, c12, c13, c14, c15, c16, c17, c18, c19, c20, c21, c22, c23, c24, c25, c26, c27, c28, c29, c30, c31, c32, c33, c35, o34, wn34, lk1, lk2, lk3⟩ hf hd K hK
            dsimp only at hK
            have hd23 : L 23 = true := (by first | (refine hd ⟨23, .data⟩ ?_ rfl; simp; done) | (refine hd ⟨23, .guard⟩ ?_ rfl; simp; done) | (refine hd ⟨23, .phase⟩ ?_ rfl; simp; done) | (refine hd ⟨23, .chain⟩ ?_ rfl; simp; done))
            have e23 := c23 hd23
            rw [e23] at hK
            clear hd23
            clear hd
            go_simp
            refine hK _ _ ?_ (fun h => by cases h)
            intro s hs
            cases hs
            exact ⟨hB, c0, c1, c2, c3, c4, c5, c6, c7, c8, c9, c10, c11, c12, c13, c14, c15, c16, c17, c18, c19, c20, c21, c22, c23, (fun _ => rfl), c25, c26, c27, c28, c29, c30, c31, c32, c33, c35, o34, wn34, lk1, lk2, lk3⟩
          case s25r1 =>
            rintro L u W ⟨hB, c0, c1, c2, c3, c4, c5, c6, c7, c8, c9, c10, c11, c12, c13, c14, c15, c16, c17, c18, c19, c20, c21, c22, c23, c24, c25, c26, c27, c28, c29, c30, c31, c32, c33, c35, o34, wn34, lk1, lk2, lk3⟩ hf hd K hK
            dsimp only at hK
            have hd24 : L 24 = true := (by first | (refine hd ⟨24, .data⟩ ?_ rfl; simp; done) | (refine hd ⟨24, .guard⟩ ?_ rfl; simp; done) | (refine hd ⟨24, .phase⟩ ?_ rfl; simp; done) | (refine hd ⟨24, .chain⟩ ?_ rfl; simp; done))
            have e24 := c24 hd24
            rw [e24] at hK
            have t0 := lk3.cell (i := 2) rfl
            clear hd24
            clear hd
            go_simp
            refine hK _ _ ?_ (fun h => by cases h)
            intro s hs
            cases hs
            exact ⟨hB, c0, c1, c2, c3, c4, c5, c6, c7, c8, c9, c10, c11, c12, c13, c14, c15, c16, c17, c18, c19, c20, c21, c22, c23, c24, (fun _ => rfl), c26, c27, c28, c29, c30, c31, c32, c33, c35, o34, wn34, lk1, lk2, lk3⟩
          case s26r1 =>
            rintro L u W ⟨hB, c0, c1, c2, c3, c4, c5, c6, c7, c8, c9, c10, c11, c12, c13, c14, c15, c16, c17, c18, c19, c20, c21, c22, c23, c24, c25, c26, c27, c28, c29, c30, c31, c32, c33, c35, o34, wn34, lk1, lk2, lk3⟩ hf hd K hK
            dsimp only at hK
            clear hd
            go_simp
            refine hK _ _ ?_ (fun h => by cases h)
            intro s hs
            cases hs
            exact ⟨hB, c0, c1, c2, c3, c4, c5, c6, c7, c8, c9, c10, c11, c12, c13, c14, c15, c16, c17, c18, c19, c20, c21, c22, c23, c24, c25, (fun _ => rfl), c27, c28, c29, c30, c31, c32, c33, c35, o34, wn34, lk1, lk2, lk3⟩
          case s27r1 =>
            rintro L u W ⟨hB, c0, c1, c2, c3, c4, c5, c6, c7, c8, c9, c10, c11, c12, c13, c14, c15, c16, c17, c18, c19, c20, c21, c22, c23, c24, c25, c26, c27, c28, c29, c30, c31, c32, c33, c35, o34, wn34, lk1, lk2, lk3⟩ hf hd K hK
            dsimp only at hK
            have hd26 : L 26 = true := (by first | (refine hd ⟨26, .data⟩ ?_ rfl; simp; done) | (refine hd ⟨26, .guard⟩ ?_ rfl; simp; done) | (refine hd ⟨26, .phase⟩ ?_ rfl; simp; done) | (refine hd ⟨26, .chain⟩ ?_ rfl; simp; done))
            have e26 := c26 hd26
            rw [e26] at hK
            clear hd26
            clear hd
            go_simp
            refine hK _ _ ?_ (fun h => by cases h)
            intro s hs
            cases hs
            exact ⟨hB, c0, c1, c2, c3, c4, c5, c6, c7, c8, c9, c10, c11, c12, c13, c14, c15, c16, c17, c18, c19, c20, c21, c22, c23, c24, c25, c26, (fun _ => rfl), c28, c29, c30, c31, c32, c33, c35, o34, wn34, lk1, lk2, lk3⟩
          case s28r1 =>
            rintro L u W ⟨hB, c0, c1, c2, c3, c4, c5, c6, c7, c8, c9, c10, c11, c12, c13, c14, c15, c16, c17, c18, c19, c20, c21, c22, c23, c24, c25, c26, c27, c28, c29, c30, c31, c32, c33, c35, o34, wn34, lk1, lk2, lk3⟩ hf hd K hK
            dsimp only at hK
            have hd27 : L 27 = true := (by first | (refine hd ⟨27, .data⟩ ?_ rfl; simp; done) | (refine hd ⟨27, .guard⟩ ?_ rfl; simp; done) | (refine hd ⟨27, .phase⟩ ?_ rfl; simp; done) | (refine hd ⟨27, .chain⟩ ?_ rfl; simp; done))
            have e27 := c27 hd27
            rw [e27] at hK
            have t0 := lk3.cell (i := 5) rfl
            clear hd27
            clear hd
            go_simp
            refine hK _ _ ?_ (fun h => by cases h)
            intro s hs
            cases hs
            exact ⟨hB, c0, c1, c2, c3, c4, c5, c6, c7, c8, c9, c10, c11, c12, c13, c14, c15, c16, c17, c18, c19, c20, c21, c22, c23, c24, c25, c26, c27, (fun _ => rfl), c29, c30, c31, c32, c33, c35, o34, wn34, lk1, lk2, lk3⟩
          case s29r1 =>
            rintro L u W ⟨hB, c0, c1, c2, c3, c4, c5, c6, c7, c8, c9, c10, c11, c12, c13, c14, c15, c16, c17, c18, c19, c20, c21, c22, c23, c24, c25, c26, c27, c28, c29, c30, c31, c32, c33, c35, o34, wn34, lk1, lk2, lk3⟩ hf hd K hK
            dsimp only at hK
            clear hd
            go_simp
            refine hK _ _ ?_ (fun h => by cases h)
            intro s hs
            cases hs
            exact ⟨hB, c0, c1, c2, c3, c4, c5, c6, c7, c8, c9, c10, c11, c12, c13, c14, c15, c16, c17, c18, c19, c20, c21, c22, c23, c24, c25, c26, c27, c28, (fun _ => rfl), c30, c31, c32, c33, c35, o34, wn34, lk1, lk2, lk3⟩
          case s30r1 =>
            rintro L u W ⟨hB, c0, c1, c2, c3, c4, c5, c6, c7, c8, c9, c10, c11, c12, c13, c14, c15, c16, c17, c18, c19, c20, c21, c22, c23, c24, c25, c26, c27, c28, c29, c30, c31, c32, c33, c35, o34, wn34, lk1, lk2, lk3⟩ hf hd K hK
            dsimp only at hK
            have hd29 : L 29 = true := (by first | (refine hd ⟨29, .data⟩ ?_ rfl; simp; done) | (refine hd ⟨29, .guard⟩ ?_ rfl; simp; done) | (refine hd ⟨29, .phase⟩ ?_ rfl; simp; done) | (refine hd ⟨29, .chain⟩ ?_ rfl; simp; done))
            have e29 := c29 hd29
            rw [e29] at hK
            clear hd29
            clear hd
            go_simp
            refine hK _ _ ?_ (fun h => by cases h)
            intro s hs
            cases hs
            exact ⟨hB, c0, c1, c2, c3, c4, c5, c6, c7, c8, c9, c10, c11, c12, c13, c14, c15, c16, c17, c18, c19, c20, c21, c22, c23, c24, c25, c26, c27, c28, c29, (fun _ => rfl), c31, c32, c33, c35, o34, wn34, lk1, lk2, lk3⟩
          case s31r1 =>
            rintro L u W ⟨hB, c0, c1, c2, c3, c4, c5, c6, c7, c8, c9, c10, c11, c12, c13, c14, c15, c16, c17, c18, c19, c20, c21, c22, c23, c24, c25, c26, c27, c28, c29, c30, c31, c32, c33, c35, o34, wn34, lk1, lk2, lk3⟩ hf hd K hK
            dsimp only at hK
            have hd30 : L 30 = true := (by first | (refine hd ⟨30, .data⟩ ?_ rfl; simp; done) | (refine hd ⟨30, .guard⟩ ?_ rfl; simp; done) | (refine hd ⟨30, .phase⟩ ?_ rfl; simp; done) | (refine hd ⟨30, .chain⟩ ?_ rfl; simp; done))
            have e30 := c30 hd30
            rw [e30] at hK
            have t0 := lk3.cell (i := 8) rfl
            clear hd30
            clear hd
            go_simp
            refine hK _ _ ?_ (fun h => by cases h)
            intro s hs
            cases hs
            exact ⟨hB, c0, c1, c2, c3, c4, c5, c6, c7, c8, c9, c10, c11, c12, c13, c14, c15, c16, c17, c18, c19, c20, c21, c22, c23, c24, c25, c26, c27, c28, c29, c30, (fun _ => rfl), c32, c33, c35, o34, wn34, lk1, lk2, lk3⟩
          case s32r1 =>
            rintro L u W ⟨hB, c0, c1, c2, c3, c4, c5, c6, c7, c8, c9, c10, c11, c12, c13, c14, c15, c16, c17, c18, c19, c20, c21, c22, c23, c24, c25, c26, c27, c28, c29, c30, c31, c32, c33, c35, o34, wn34, lk1, lk2, lk3⟩ hf hd K hK
            dsimp only at hK
            have hd22 : L 22 = true := (by first | (refine hd ⟨22, .data⟩ ?_ rfl; simp; done) | (refine hd ⟨22, .guard⟩ ?_ rfl; simp; done) | (refine hd ⟨22, .phase⟩ ?_ rfl; simp; done) | (refine hd ⟨22, .chain⟩ ?_ rfl; simp; done))
            have hd25 : L 25 = true := (by first | (refine hd ⟨25, .data⟩ ?_ rfl; simp; done) | (refine hd ⟨25, .guard⟩ ?_ rfl; simp; done) | (refine hd ⟨25, .phase⟩ ?_ rfl; simp; done) | (refine hd ⟨25, .chain⟩ ?_ rfl; simp; done))
            have hd28 : L 28 = true := (by first | (refine hd ⟨28, .data⟩ ?_ rfl; simp; done) | (refine hd ⟨28, .guard⟩ ?_ rfl; simp; done) | (refine hd ⟨28, .phase⟩ ?_ rfl; simp; done) | (refine hd ⟨28, .chain⟩ ?_ rfl; simp; done))
            have hd31 : L 31 = true := (by first | (refine hd ⟨31, .data⟩ ?_ rfl; simp; done) | (refine hd ⟨31, .guard⟩ ?_ rfl; simp; done) | (refine hd ⟨31, .phase⟩ ?_ rfl; simp; done) | (refine hd ⟨31, .chain⟩ ?_ rfl; simp; done))
            have e22 := c22 hd22
            rw [e22] at hK
            have e25 := c25 hd25
            rw [e25] at hK
            have e28 := c28 hd28
            rw [e28] at hK
            have e31 := c31 hd31
            rw [e31] at hK
            clear hd22
            clear hd25
            clear hd28
            clear hd31
            clear hd
            go_simp
            go_wp2_with (go_at_call 33; ((with_reducible refine (L2.out _ _ _ lk1 lk2).mono ?_); rintro e w5 ⟨rfl, hb⟩))
            refine hK _ _ ?_ (fun h => by cases h)
            intro s hs
            cases hs
            exact ⟨hB.trans (hb.mono (Nat.le_trans hbound hB.size)), c0, c1, c2, c3, c4, c5, c6, c7, c8, c9, c10, c11, c12, c13, c14, c15, c16, c17, c18, c19, c20, c21, c22, c23, c24, c25, c26, c27, c28, c29, c30, c31, (fun _ => rfl), c33, c35, (fun h => (o34 h).keep hb), (fun h => (wn34 h).keep hb), (lk1.keep hb), (lk2.keep hb), (lk3.keep hb)⟩
          case s33r1 =>
            rintro L u W ⟨hB, c0, c1, c2, c3, c4, c5, c6, c7, c8, c9, c10, c11, c12, c13, c14, c15, c16, c17, c18, c19, c20, c21, c22, c23, c24, c25, c26, c27, c28, c29, c30, c31, c32, c33, c35, o34, wn34, lk1, lk2, lk3⟩ hf hd K hK
            dsimp only at hK
            have hd10 : L 10 = true := (by first | (refine hd ⟨10, .data⟩ ?_ rfl; simp; done) | (refine hd ⟨10, .guard⟩ ?_ rfl; simp; done) | (refine hd ⟨10, .phase⟩ ?_ rfl; simp; done) | (refine hd ⟨10, .chain⟩ ?_ rfl; simp; done))
            have hd21 : L 21 = true := (by first | (refine hd ⟨21, .data⟩ ?_ rfl; simp; done) | (refine hd ⟨21, .guard⟩ ?_ rfl; simp; done) | (refine hd ⟨21, .phase⟩ ?_ rfl; simp; done) | (refine hd ⟨21, .chain⟩ ?_ rfl; simp; done))
            have hd32 : L 32 = true := (by first | (refine hd ⟨32, .data⟩ ?_ rfl; simp; done) | (refine hd ⟨32, .guard⟩ ?_ rfl; simp; done) | (refine hd ⟨32, .phase⟩ ?_ rfl; simp; done) | (refine hd ⟨32, .chain⟩ ?_ rfl; simp; done))
            have e10 := c10 hd10
            rw [e10] at hK
            have e21 := c21 hd21
            rw [e21] at hK
            have e32 := c32 hd32
            rw [e32] at hK
            clear hd10
            clear hd21
            clear hd32
            clear hd
            go_simp
            refine hK _ _ ?_ (fun h => by cases h)
            intro s hs
            cases hs
            exact ⟨hB, c0, c1, c2, c3, c4, c5, c6, c7, c8, c9, c10, c11, c12, c13, c14, c15, c16, c17, c18, c19, c20, c21, c22, c23, c24, c25, c26, c27, c28, c29, c30, c31, c32, (fun _ => rfl), c35, o34, wn34, lk1, lk2, lk3⟩
          case s34r1 =>
            rintro L u W ⟨hB, c0, c1, c2, c3, c4, c5, c6, c7, c8, c9, c10, c11, c12, c13, c14, c15, c16, c17, c18, c19, c20, c21, c22, c23, c24, c25, c26, c27, c28, c29, c30, c31, c32, c33, c35, o34, wn34, lk1, lk2, lk3⟩ hf hd K hK
            dsimp only at hK
            have hd33 : L 33 = true := (by first | (refine hd ⟨33, .data⟩ ?_ rfl; simp; done) | (refine hd ⟨33, .phase⟩ ?_ rfl; simp; done))
            have k3 := o34 hf
            have e33 := c33 hd33
            rw [e33] at hK
            have t0 := k3.cell (i := 0) rfl
            have f0 := k3.frozen 0
            have t1 := k3.cell (i := 1) rfl
            have f1 := k3.frozen 1
            have t2 := k3.cell (i := 2) rfl
            have f2 := k3.frozen 2
            clear hd
            have hd33' := Lib.hid hd33
            clear hd33
            go_simp
            have hd33 := hd33'.out
            have hlok := ((k3.set (i := 0) (v := .int .i64 v0)).set (i := 1) (v := .int .i64 v1)).set (i := 2) (v := .int .i64 v2)
            refine hK undef _ (fun s h => by cases h) (fun _ => ?_)
            exact ⟨((hB.setCell (by first | exact Nat.le_refl _ | assumption | (show _ ≤ _; omega) | (show ((w.heap.size + 3)) ≤ (w.heap.size + 3); omega)) _).setCell (by first | exact Nat.le_refl _ | assumption | (show _ ≤ _; omega) | (show ((w.heap.size + 3)) ≤ (w.heap.size + 3); omega)) _).setCell (by first | exact Nat.le_refl _ | assumption | (show _ ≤ _; omega) | (show ((w.heap.size + 3)) ≤ (w.heap.size + 3); omega)) _, c0, c1, c2, c3, c4, c5, c6, c7, c8, c9, c10, c11, c12, c13, c14, c15, c16, c17, c18, c19, c20, c21, c22, c23, c24, c25, c26, c27, c28, c29, c30, c31, c32, (fun _ => rfl), c35, (fun h => by cases h), (fun _ => hlok), (((lk1.far (by first | assumption | omega)).far (by first | assumption | omega)).far (by first | assumption | omega)), (((lk2.far (by first | assumption | omega)).far (by first | assumption | omega)).far (by first | assumption | omega)), (((lk3.far (by first | assumption | omega)).far (by first | assumption | omega)).far (by first | assumption | omega))⟩
          case s35r1 =>
            rintro L u W ⟨hB, c0, c1, c2, c3, c4, c5, c6, c7, c8, c9, c10, c11, c12, c13, c14, c15, c16, c17, c18, c19, c20, c21, c22, c23, c24, c25, c26, c27, c28, c29, c30, c31, c32, c33, c35, o34, wn34, lk1, lk2, lk3⟩ hf hd K hK
            dsimp only at hK
            clear hd
            go_simp
            refine hK _ _ ?_ (fun h => by cases h)
            intro s hs
            cases hs
            exact ⟨hB, c0, c1, c2, c3, c4, c5, c6, c7, c8, c9, c10, c11, c12, c13, c14, c15, c16, c17, c18, c19, c20, c21, c22, c23, c24, c25, c26, c27, c28, c29, c30, c31, c32, c33, (fun _ => rfl), o34, wn34, lk1, lk2, lk3⟩
        case finr1 =>
          rintro L u W hL ⟨hB, c0, c1, c2, c3, c4, c5, c6, c7, c8, c9, c10, c11, c12, c13, c14, c15, c16, c17, c18, c19, c20, c21, c22, c23, c24, c25, c26, c27, c28, c29, c30, c31, c32, c33, c35, o34, wn34, lk1, lk2, lk3⟩
          have e0 := c0 (hL 0 (by decide))
          have e1 := c1 (hL 1 (by decide))
          have e2 := c2 (hL 2 (by decide))
          have e3 := c3 (hL 3 (by decide))
          have e4 := c4 (hL 4 (by decide))
          have e5 := c5 (hL 5 (by decide))
          have e6 := c6 (hL 6 (by decide))
          have e7 := c7 (hL 7 (by decide))
          have e8 := c8 (hL 8 (by decide))
          have e9 := c9 (hL 9 (by decide))
          have e10 := c10 (hL 10 (by decide))
          have e11 := c11 (hL 11 (by decide))
          have e12 := c12 (hL 12 (by decide))
          have e13 := c13 (hL 13 (by decide))
          have e14 := c14 (hL 14 (by decide))
          have e15 := c15 (hL 15 (by decide))
          have e16 := c16 (hL 16 (by decide))
          have e17 := c17 (hL 17 (by decide))
          have e18 := c18 (hL 18 (by decide))
          have e19 := c19 (hL 19 (by decide))
          have e20 := c20 (hL 20 (by decide))
          have e21 := c21 (hL 21 (by decide))
          have e22 := c22 (hL 22 (by decide))
          have e23 := c23 (hL 23 (by decide))
          have e24 := c24 (hL 24 (by decide))
          have e25 := c25 (hL 25 (by decide))
          have e26 := c26 (hL 26 (by decide))
          have e27 := c27 (hL 27 (by decide))
          have e28 := c28 (hL 28 (by decide))
          have e29 := c29 (hL 29 (by decide))
          have e30 := c30 (hL 30 (by decide))
          have e31 := c31 (hL 31 (by decide))
          have e32 := c32 (hL 32 (by decide))
          have e33 := c33 (hL 33 (by decide))
          have e35 := c35 (hL 35 (by decide))
          have hlok34 := wn34 (hL 34 (by decide))
          clear hL c0 c1 c2 c3 c4 c5 c6 c7 c8 c9 c10 c11 c12 c13 c14 c15 c16 c17 c18 c19 c20 c21 c22 c23 c24 c25 c26 c27 c28 c29 c30 c31 c32 c33 c35 o34 wn34
          try simp only [e0, e1, e2, e3, e4, e5, e6, e7, e8, e9, e10, e11, e12, e13, e14, e15, e16, e17, e18, e19, e20, e21, e22, e23, e24, e25, e26, e27, e28, e29, e30, e31, e32, e33, e35]
          clear e0 e1 e2 e3 e4 e5 e6 e7 e8 e9 e10 e11 e12 e13 e14 e15 e16 e17 e18 e19 e20 e21 e22 e23 e24 e25 e26 e27 e28 e29 e30 e31 e32 e33 e35
          have r0 := hlok34.cell (i := 0) rfl
          have r1 := hlok34.cell (i := 1) rfl
          have r2 := hlok34.cell (i := 2) rfl
          go_wp2_with fail
          exact bodyPost_ret (v := .tuple #[.agg #[.int .i64 v0, .int .i64 v1, .int .i64 v2], .int .i64 0]) (by simp [results, Try.results14, go_sem, r0, r1, r2]) rfl ⟨rfl, HB.out.trans (hB.mono (by omega))⟩
end Go.Proofs.Ytllamakemgogaaa
