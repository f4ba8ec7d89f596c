/-
  NearLeast, walked. (gen/NrP.py)
-/
import Derived.Test.YtllamakemgogaaaNrN
namespace Go.Proofs.Ytllamakemgogaaa
open Go.RowKit

theorem far_le {n d m e k : Int} (h : cmpF n d m e ≤ 0) (l : cmpF m e k 1 ≤ 0) : cmpF n d k 1 ≤ 0 := (cmpF_trans _ _ _ _ _ _ h l).1
theorem zero_le {k : Int} (h : 0 ≤ k ∧ k ≤ 134217728) : cmpF 0 1 k 1 ≤ 0 := cmp_le (by unfold FR; omega) (fr_one h) (by omega)
theorem least_ok {x y a1 a2 b1 b2 c1 c2 : Int} (hp : s2 x y = true) (ha : rT a1 a2 b1 b2 c1 c2 = true) :
    cmpF (clV true true (r1 a1 a2 b1 b2 c1 c2 x y) 0 (nrS x y a1 a2 b1 b2 c1 c2 fN)) (clV true true (r1 a1 a2 b1 b2 c1 c2 x y) 1 (nrS x y a1 a2 b1 b2 c1 c2 fD)) (sq x y a1 a2) 1 ≤ 0 ∧ cmpF (clV true true (r1 a1 a2 b1 b2 c1 c2 x y) 0 (nrS x y a1 a2 b1 b2 c1 c2 fN)) (clV true true (r1 a1 a2 b1 b2 c1 c2 x y) 1 (nrS x y a1 a2 b1 b2 c1 c2 fD)) (sq x y b1 b2) 1 ≤ 0 ∧ cmpF (clV true true (r1 a1 a2 b1 b2 c1 c2 x y) 0 (nrS x y a1 a2 b1 b2 c1 c2 fN)) (clV true true (r1 a1 a2 b1 b2 c1 c2 x y) 1 (nrS x y a1 a2 b1 b2 c1 c2 fD)) (sq x y c1 c2) 1 ≤ 0
    ∧ ∀ z1 z2 : Int, s2 z1 z2 = true → 0 ≤ r1 a1 a2 b1 b2 c1 c2 z1 z2 → cmpF (clV true true (r1 a1 a2 b1 b2 c1 c2 x y) 0 (nrS x y a1 a2 b1 b2 c1 c2 fN)) (clV true true (r1 a1 a2 b1 b2 c1 c2 x y) 1 (nrS x y a1 a2 b1 b2 c1 c2 fD)) (sq x y z1 z2) 1 ≤ 0 := by
  obtain ⟨h1, h2, h3⟩ := small_of3 (rT_small ha)
  have hA := (rT_iff.1 ha).2.2.2
  by_cases hr : r1 a1 a2 b1 b2 c1 c2 x y < 0
  · rw [clV_out _ _ hr, clV_out _ _ hr]
    obtain ⟨e1, e2, e3⟩ := l3_least (fN x y a1 a2 b1 b2) (fD x y a1 a2 b1 b2) (fN x y b1 b2 c1 c2) (fD x y b1 b2 c1 c2) (fN x y c1 c2 a1 a2) (fD x y c1 c2 a1 a2) (nrS x y a1 a2 b1 b2 c1 c2 fN) (nrS x y a1 a2 b1 b2 c1 c2 fD) rfl rfl
    refine ⟨far_le e1 (edge_cmp_a hp h1 h2), far_le e2 (edge_cmp_a hp h2 h3), far_le e3 (edge_cmp_a hp h3 h1), fun z1 z2 hz hq => ?_⟩
    have k := fr_one (sq_bd hp hz)
    rcases outside_least hp h1 h2 h3 hA hr hq with l | l | l
    · exact far_le e1 (cmp_le (edge_fr hp h1 h2).1 k l)
    · exact far_le e2 (cmp_le (edge_fr hp h2 h3).1 k l)
    · exact far_le e3 (cmp_le (edge_fr hp h3 h1).1 k l)
  · rw [clV_in _ _ hr, clV_in _ _ hr]
    exact ⟨zero_le (sq_bd hp h1), zero_le (sq_bd hp h2), zero_le (sq_bd hp h3), fun z1 z2 hz _ => zero_le (sq_bd hp hz)⟩
set_option maxRecDepth 100000 in
set_option maxHeartbeats 8000000 in
theorem law_least (x y z1 z2 a1 a2 b1 b2 c1 c2 : Int) (w : World) :
    Calls Try.prog 4 #[.agg #[.int .i64 x, .int .i64 y], .agg #[.int .i64 z1, .int .i64 z2], .agg #[.int .i64 a1, .int .i64 a2, .int .i64 b1, .int .i64 b2, .int .i64 c1, .int .i64 c2]] w fun e' w' => e' = .returned (.bool true) ∧ Below w.heap.size w w' := by
  have HB := Lib.hid (Below.refl w.heap.size w)
  have ME := Lib.hid (fun W => neared_any W)
  have CL := Lib.hid (fun W => closest_any x y a1 a2 b1 b2 c1 c2 W)
  have S := Lib.hid (fun g T W h => small2_1 x y _ rfl g T W h)
  have RT := Lib.hid (fun W => right_any a1 a2 b1 b2 c1 c2 W)
  have IN := Lib.hid (fun W => in_any z1 z2 a1 a2 b1 b2 c1 c2 W)
  have zz : q2 0 0 0 0 = true := by decide
  cases hs : s2 x y with
  | false =>
    simp only [hs, iE_no, show ∀ t r p q, clV false t r p q = 0 from fun _ _ _ _ => rfl] at CL
    rw [hs] at S
    clear hs RT IN
    go_enter Try.func4, Try.ntmps4
    go_upto_region 1 with fail
    have hbp := below_new1 w (.cells #[.int .i64 x, .int .i64 y] 23)
    have zp : (w.alloc (.cells #[.int .i64 x, .int .i64 y] 23)).heap.size = w.heap.size + 1 := by simp
    have HB := Lib.hid hbp
    have kp := Lib.hid (Lok.new w 23 #[.int .i64 x, .int .i64 y])
    clear hbp
    generalize w.alloc (.cells #[.int .i64 x, .int .i64 y] 23) = Vp at *
    have hbq := below_new1 Vp (.cells #[.int .i64 z1, .int .i64 z2] 23)
    replace kp := Lib.hid (kp.out.keep hbq)
    have zq : (Vp.alloc (.cells #[.int .i64 z1, .int .i64 z2] 23)).heap.size = Vp.heap.size + 1 := by simp
    replace HB := Lib.hid (HB.out.trans (hbq.mono HB.out.size))
    have kq := Lib.hid (Lok.new Vp 23 #[.int .i64 z1, .int .i64 z2])
    clear hbq
    generalize Vp.alloc (.cells #[.int .i64 z1, .int .i64 z2] 23) = Vq at *
    rw [zp] at kq zq
    have hbt := below_new1 Vq (.cells #[.int .i64 a1, .int .i64 a2, .int .i64 b1, .int .i64 b2, .int .i64 c1, .int .i64 c2] 24)
    replace kp := Lib.hid (kp.out.keep hbt)
    replace kq := Lib.hid (kq.out.keep hbt)
    have zt : (Vq.alloc (.cells #[.int .i64 a1, .int .i64 a2, .int .i64 b1, .int .i64 b2, .int .i64 c1, .int .i64 c2] 24)).heap.size = Vq.heap.size + 1 := by simp
    replace HB := Lib.hid (HB.out.trans (hbt.mono HB.out.size))
    have kt := Lib.hid (Lok.new Vq 24 #[.int .i64 a1, .int .i64 a2, .int .i64 b1, .int .i64 b2, .int .i64 c1, .int .i64 c2])
    clear hbt
    generalize Vq.alloc (.cells #[.int .i64 a1, .int .i64 a2, .int .i64 b1, .int .i64 b2, .int .i64 c1, .int .i64 c2] 24) = Vt at *
    rw [zq] at kt
    clear zp zq zt
    have p0 := kp.out.cell (i := 0) rfl
    have p1 := kp.out.cell (i := 1) rfl
    have t0 := kt.out.cell (i := 0) rfl
    have t1 := kt.out.cell (i := 1) rfl
    have t2 := kt.out.cell (i := 2) rfl
    have t3 := kt.out.cell (i := 3) rfl
    have t4 := kt.out.cell (i := 4) rfl
    have t5 := kt.out.cell (i := 5) rfl
    go_wp2_with fail
    clear p0 p1 t0 t1 t2 t3 t4 t5
    (((with_reducible refine (CL.out _).mono ?_); rintro e w1 ⟨rfl, hb1⟩); replace HB := Lib.hid (HB.out.trans (hb1.mono HB.out.size)); replace kp := Lib.hid (kp.out.keep hb1); replace kq := Lib.hid (kq.out.keep hb1); replace kt := Lib.hid (kt.out.keep hb1); clear hb1)
    go_upto_region 2 with fail
    have hbm := below_new1 w1 (.cells #[.int .i64 0, .int .i64 0] 23)
    replace kp := Lib.hid (kp.out.keep hbm)
    replace kq := Lib.hid (kq.out.keep hbm)
    replace kt := Lib.hid (kt.out.keep hbm)
    have zm : (w1.alloc (.cells #[.int .i64 0, .int .i64 0] 23)).heap.size = w1.heap.size + 1 := by simp
    replace HB := Lib.hid (HB.out.trans (hbm.mono HB.out.size))
    have km := Lib.hid (Lok.new w1 23 #[.int .i64 0, .int .i64 0])
    clear hbm
    generalize w1.alloc (.cells #[.int .i64 0, .int .i64 0] 23) = Vm at *
    have hbn := below_new1 Vm (.cells #[.int .i64 0, .int .i64 0] 29)
    replace kp := Lib.hid (kp.out.keep hbn)
    replace kq := Lib.hid (kq.out.keep hbn)
    replace kt := Lib.hid (kt.out.keep hbn)
    replace km := Lib.hid (km.out.keep hbn)
    have zn : (Vm.alloc (.cells #[.int .i64 0, .int .i64 0] 29)).heap.size = Vm.heap.size + 1 := by simp
    replace HB := Lib.hid (HB.out.trans (hbn.mono HB.out.size))
    have kn := Lib.hid (Lok.new Vm 29 #[.int .i64 0, .int .i64 0])
    clear hbn
    generalize Vm.alloc (.cells #[.int .i64 0, .int .i64 0] 29) = Vn at *
    rw [zm] at kn
    clear zm zn
    generalize w1.heap.size = gm at *
    go_wp2_with fail
    (((with_reducible refine (ME.out _).mono ?_); rintro e w2 ⟨rfl, hb2⟩); replace HB := Lib.hid (HB.out.trans (hb2.mono HB.out.size)); replace kp := Lib.hid (kp.out.keep hb2); replace kt := Lib.hid (kt.out.keep hb2); replace km := Lib.hid (km.out.keep hb2); clear hb2)
    have p0 := kp.out.cell (i := 0) rfl
    have p1 := kp.out.cell (i := 1) rfl
    go_wp2_with fail
    clear p0 p1
    have hbs := below_new1 w2 (.cells #[.int .i64 x, .int .i64 y] 23)
    replace kp := Lib.hid (kp.out.keep hbs)
    replace kt := Lib.hid (kt.out.keep hbs)
    replace km := Lib.hid (km.out.keep hbs)
    have zs : (w2.alloc (.cells #[.int .i64 x, .int .i64 y] 23)).heap.size = w2.heap.size + 1 := by simp
    replace HB := Lib.hid (HB.out.trans (hbs.mono HB.out.size))
    have ks := Lib.hid (Lok.new w2 23 #[.int .i64 x, .int .i64 y])
    clear hbs
    generalize w2.alloc (.cells #[.int .i64 x, .int .i64 y] 23) = Vs at *
    clear zs
    generalize w2.heap.size = gs at *
    (((with_reducible refine (S.out _ _ _ ks.out).mono ?_); rintro e w3 ⟨rfl, hb3⟩); replace HB := Lib.hid (HB.out.trans (hb3.mono HB.out.size)); replace kp := Lib.hid (kp.out.keep hb3); replace kt := Lib.hid (kt.out.keep hb3); replace km := Lib.hid (km.out.keep hb3); clear hb3)
    have m0 := km.out.cell (i := 0) rfl
    have m1 := km.out.cell (i := 1) rfl
    go_wp2
    go_ret
    exact ⟨rfl, HB.out⟩
  | true =>
    rw [hs] at S
    cases ha : rT a1 a2 b1 b2 c1 c2 with
    | false =>
      simp only [hs, ha, iE_arg, show ∀ r p q, clV true false r p q = 0 from fun _ _ _ => rfl] at CL
      rw [ha] at RT
      clear hs ha IN
      go_enter Try.func4, Try.ntmps4
      go_upto_region 1 with fail
      have hbp := below_new1 w (.cells #[.int .i64 x, .int .i64 y] 23)
      have zp : (w.alloc (.cells #[.int .i64 x, .int .i64 y] 23)).heap.size = w.heap.size + 1 := by simp
      have HB := Lib.hid hbp
      have kp := Lib.hid (Lok.new w 23 #[.int .i64 x, .int .i64 y])
      clear hbp
      generalize w.alloc (.cells #[.int .i64 x, .int .i64 y] 23) = Vp at *
      have hbq := below_new1 Vp (.cells #[.int .i64 z1, .int .i64 z2] 23)
      replace kp := Lib.hid (kp.out.keep hbq)
      have zq : (Vp.alloc (.cells #[.int .i64 z1, .int .i64 z2] 23)).heap.size = Vp.heap.size + 1 := by simp
      replace HB := Lib.hid (HB.out.trans (hbq.mono HB.out.size))
      have kq := Lib.hid (Lok.new Vp 23 #[.int .i64 z1, .int .i64 z2])
      clear hbq
      generalize Vp.alloc (.cells #[.int .i64 z1, .int .i64 z2] 23) = Vq at *
      rw [zp] at kq zq
      have hbt := below_new1 Vq (.cells #[.int .i64 a1, .int .i64 a2, .int .i64 b1, .int .i64 b2, .int .i64 c1, .int .i64 c2] 24)
      replace kp := Lib.hid (kp.out.keep hbt)
      replace kq := Lib.hid (kq.out.keep hbt)
      have zt : (Vq.alloc (.cells #[.int .i64 a1, .int .i64 a2, .int .i64 b1, .int .i64 b2, .int .i64 c1, .int .i64 c2] 24)).heap.size = Vq.heap.size + 1 := by simp
      replace HB := Lib.hid (HB.out.trans (hbt.mono HB.out.size))
      have kt := Lib.hid (Lok.new Vq 24 #[.int .i64 a1, .int .i64 a2, .int .i64 b1, .int .i64 b2, .int .i64 c1, .int .i64 c2])
      clear hbt
      generalize Vq.alloc (.cells #[.int .i64 a1, .int .i64 a2, .int .i64 b1, .int .i64 b2, .int .i64 c1, .int .i64 c2] 24) = Vt at *
      rw [zq] at kt
      clear zp zq zt
      have p0 := kp.out.cell (i := 0) rfl
      have p1 := kp.out.cell (i := 1) rfl
      have t0 := kt.out.cell (i := 0) rfl
      have t1 := kt.out.cell (i := 1) rfl
      have t2 := kt.out.cell (i := 2) rfl
      have t3 := kt.out.cell (i := 3) rfl
      have t4 := kt.out.cell (i := 4) rfl
      have t5 := kt.out.cell (i := 5) rfl
      go_wp2_with fail
      clear p0 p1 t0 t1 t2 t3 t4 t5
      (((with_reducible refine (CL.out _).mono ?_); rintro e w1 ⟨rfl, hb1⟩); replace HB := Lib.hid (HB.out.trans (hb1.mono HB.out.size)); replace kp := Lib.hid (kp.out.keep hb1); replace kq := Lib.hid (kq.out.keep hb1); replace kt := Lib.hid (kt.out.keep hb1); clear hb1)
      go_upto_region 2 with fail
      have hbm := below_new1 w1 (.cells #[.int .i64 0, .int .i64 0] 23)
      replace kp := Lib.hid (kp.out.keep hbm)
      replace kq := Lib.hid (kq.out.keep hbm)
      replace kt := Lib.hid (kt.out.keep hbm)
      have zm : (w1.alloc (.cells #[.int .i64 0, .int .i64 0] 23)).heap.size = w1.heap.size + 1 := by simp
      replace HB := Lib.hid (HB.out.trans (hbm.mono HB.out.size))
      have km := Lib.hid (Lok.new w1 23 #[.int .i64 0, .int .i64 0])
      clear hbm
      generalize w1.alloc (.cells #[.int .i64 0, .int .i64 0] 23) = Vm at *
      have hbn := below_new1 Vm (.cells #[.int .i64 0, .int .i64 0] 29)
      replace kp := Lib.hid (kp.out.keep hbn)
      replace kq := Lib.hid (kq.out.keep hbn)
      replace kt := Lib.hid (kt.out.keep hbn)
      replace km := Lib.hid (km.out.keep hbn)
      have zn : (Vm.alloc (.cells #[.int .i64 0, .int .i64 0] 29)).heap.size = Vm.heap.size + 1 := by simp
      replace HB := Lib.hid (HB.out.trans (hbn.mono HB.out.size))
      have kn := Lib.hid (Lok.new Vm 29 #[.int .i64 0, .int .i64 0])
      clear hbn
      generalize Vm.alloc (.cells #[.int .i64 0, .int .i64 0] 29) = Vn at *
      rw [zm] at kn
      clear zm zn
      generalize w1.heap.size = gm at *
      go_wp2_with fail
      (((with_reducible refine (ME.out _).mono ?_); rintro e w2 ⟨rfl, hb2⟩); replace HB := Lib.hid (HB.out.trans (hb2.mono HB.out.size)); replace kp := Lib.hid (kp.out.keep hb2); replace kt := Lib.hid (kt.out.keep hb2); replace km := Lib.hid (km.out.keep hb2); clear hb2)
      have p0 := kp.out.cell (i := 0) rfl
      have p1 := kp.out.cell (i := 1) rfl
      go_wp2_with fail
      clear p0 p1
      have hbs := below_new1 w2 (.cells #[.int .i64 x, .int .i64 y] 23)
      replace kp := Lib.hid (kp.out.keep hbs)
      replace kt := Lib.hid (kt.out.keep hbs)
      replace km := Lib.hid (km.out.keep hbs)
      have zs : (w2.alloc (.cells #[.int .i64 x, .int .i64 y] 23)).heap.size = w2.heap.size + 1 := by simp
      replace HB := Lib.hid (HB.out.trans (hbs.mono HB.out.size))
      have ks := Lib.hid (Lok.new w2 23 #[.int .i64 x, .int .i64 y])
      clear hbs
      generalize w2.alloc (.cells #[.int .i64 x, .int .i64 y] 23) = Vs at *
      clear zs
      generalize w2.heap.size = gs at *
      (((with_reducible refine (S.out _ _ _ ks.out).mono ?_); rintro e w3 ⟨rfl, hb3⟩); replace HB := Lib.hid (HB.out.trans (hb3.mono HB.out.size)); replace kp := Lib.hid (kp.out.keep hb3); replace kt := Lib.hid (kt.out.keep hb3); replace km := Lib.hid (km.out.keep hb3); clear hb3)
      have t0 := kt.out.cell (i := 0) rfl
      have t1 := kt.out.cell (i := 1) rfl
      have t2 := kt.out.cell (i := 2) rfl
      have t3 := kt.out.cell (i := 3) rfl
      have t4 := kt.out.cell (i := 4) rfl
      have t5 := kt.out.cell (i := 5) rfl
      go_wp2_with fail
      clear t0 t1 t2 t3 t4 t5
      (((with_reducible refine (RT.out _).mono ?_); rintro e w4 ⟨rfl, hb4⟩); replace HB := Lib.hid (HB.out.trans (hb4.mono HB.out.size)); replace kp := Lib.hid (kp.out.keep hb4); replace kt := Lib.hid (kt.out.keep hb4); replace km := Lib.hid (km.out.keep hb4); clear hb4)
      have m0 := km.out.cell (i := 0) rfl
      have m1 := km.out.cell (i := 1) rfl
      go_wp2
      go_ret
      exact ⟨rfl, HB.out⟩
    | true =>
      obtain ⟨l1, l2, l3, lq⟩ := least_ok (x := x) (y := y) hs ha
      obtain ⟨h1, h2, h3⟩ := small_of3 (rT_small ha)
      have Q0 := Lib.hid (fun W => lsquare_any x y a1 a2 hs h1 W)
      have Q1 := Lib.hid (fun W => lsquare_any x y b1 b2 hs h2 W)
      have Q2 := Lib.hid (fun W => lsquare_any x y c1 c2 hs h3 W)
      have QZ := Lib.hid (fun (h : s2 z1 z2 = true) W => lsquare_any x y z1 z2 hs h W)
      replace lq := Lib.hid (lq z1 z2)
      simp only [hs, ha, iE_yes] at CL
      rw [ha] at IN
      generalize clV true true (r1 a1 a2 b1 b2 c1 c2 x y) 0 (nrS x y a1 a2 b1 b2 c1 c2 fN) = nn at *
      generalize clV true true (r1 a1 a2 b1 b2 c1 c2 x y) 1 (nrS x y a1 a2 b1 b2 c1 c2 fD) = nd at *
      generalize clV true true (r1 a1 a2 b1 b2 c1 c2 x y) x (nrS x y a1 a2 b1 b2 c1 c2 fX) = nx at *
      generalize clV true true (r1 a1 a2 b1 b2 c1 c2 x y) y (nrS x y a1 a2 b1 b2 c1 c2 fY) = ny at *
      generalize sq x y a1 a2 = s0 at *
      generalize sq x y b1 b2 = s1' at *
      generalize sq x y c1 c2 = s2' at *
      have K0 := Lib.hid (fun W => fcmp_any nn nd s0 1 W)
      have K1 := Lib.hid (fun W => fcmp_any nn nd s1' 1 W)
      have K2 := Lib.hid (fun W => fcmp_any nn nd s2' 1 W)
      have KZ := Lib.hid (fun W => fcmp_any nn nd (sq x y z1 z2) 1 W)
      generalize cmpF nn nd s0 1 = m0 at *
      generalize cmpF nn nd s1' 1 = m1 at *
      generalize cmpF nn nd s2' 1 = m2 at *
      have d0 : decide (0 < m0) = false := decide_eq_false (by omega)
      have d1 : decide (0 < m1) = false := decide_eq_false (by omega)
      have d2 : decide (0 < m2) = false := decide_eq_false (by omega)
      have hrb := in_bd a1 a2 b1 b2 c1 c2 z1 z2
      generalize r1 a1 a2 b1 b2 c1 c2 z1 z2 = r at *
      clear hs ha h1 h2 h3 l1 l2 l3 S RT
      go_enter Try.func4, Try.ntmps4
      go_upto_region 1 with fail
      have hbp := below_new1 w (.cells #[.int .i64 x, .int .i64 y] 23)
      have zp : (w.alloc (.cells #[.int .i64 x, .int .i64 y] 23)).heap.size = w.heap.size + 1 := by simp
      have HB := Lib.hid hbp
      have kp := Lib.hid (Lok.new w 23 #[.int .i64 x, .int .i64 y])
      clear hbp
      generalize w.alloc (.cells #[.int .i64 x, .int .i64 y] 23) = Vp at *
      have hbq := below_new1 Vp (.cells #[.int .i64 z1, .int .i64 z2] 23)
      replace kp := Lib.hid (kp.out.keep hbq)
      have zq : (Vp.alloc (.cells #[.int .i64 z1, .int .i64 z2] 23)).heap.size = Vp.heap.size + 1 := by simp
      replace HB := Lib.hid (HB.out.trans (hbq.mono HB.out.size))
      have kq := Lib.hid (Lok.new Vp 23 #[.int .i64 z1, .int .i64 z2])
      clear hbq
      generalize Vp.alloc (.cells #[.int .i64 z1, .int .i64 z2] 23) = Vq at *
      rw [zp] at kq zq
      have hbt := below_new1 Vq (.cells #[.int .i64 a1, .int .i64 a2, .int .i64 b1, .int .i64 b2, .int .i64 c1, .int .i64 c2] 24)
      replace kp := Lib.hid (kp.out.keep hbt)
      replace kq := Lib.hid (kq.out.keep hbt)
      have zt : (Vq.alloc (.cells #[.int .i64 a1, .int .i64 a2, .int .i64 b1, .int .i64 b2, .int .i64 c1, .int .i64 c2] 24)).heap.size = Vq.heap.size + 1 := by simp
      replace HB := Lib.hid (HB.out.trans (hbt.mono HB.out.size))
      have kt := Lib.hid (Lok.new Vq 24 #[.int .i64 a1, .int .i64 a2, .int .i64 b1, .int .i64 b2, .int .i64 c1, .int .i64 c2])
      clear hbt
      generalize Vq.alloc (.cells #[.int .i64 a1, .int .i64 a2, .int .i64 b1, .int .i64 b2, .int .i64 c1, .int .i64 c2] 24) = Vt at *
      rw [zq] at kt
      clear zp zq zt
      have p0 := kp.out.cell (i := 0) rfl
      have p1 := kp.out.cell (i := 1) rfl
      have t0 := kt.out.cell (i := 0) rfl
      have t1 := kt.out.cell (i := 1) rfl
      have t2 := kt.out.cell (i := 2) rfl
      have t3 := kt.out.cell (i := 3) rfl
      have t4 := kt.out.cell (i := 4) rfl
      have t5 := kt.out.cell (i := 5) rfl
      go_wp2_with fail
      clear p0 p1 t0 t1 t2 t3 t4 t5
      (((with_reducible refine (CL.out _).mono ?_); rintro e w1 ⟨rfl, hb1⟩); replace HB := Lib.hid (HB.out.trans (hb1.mono HB.out.size)); replace kp := Lib.hid (kp.out.keep hb1); replace kq := Lib.hid (kq.out.keep hb1); replace kt := Lib.hid (kt.out.keep hb1); clear hb1)
      go_upto_region 2 with fail
      have hbm := below_new1 w1 (.cells #[.int .i64 nx, .int .i64 ny] 23)
      replace kp := Lib.hid (kp.out.keep hbm)
      replace kq := Lib.hid (kq.out.keep hbm)
      replace kt := Lib.hid (kt.out.keep hbm)
      have zm : (w1.alloc (.cells #[.int .i64 nx, .int .i64 ny] 23)).heap.size = w1.heap.size + 1 := by simp
      replace HB := Lib.hid (HB.out.trans (hbm.mono HB.out.size))
      have km := Lib.hid (Lok.new w1 23 #[.int .i64 nx, .int .i64 ny])
      clear hbm
      generalize w1.alloc (.cells #[.int .i64 nx, .int .i64 ny] 23) = Vm at *
      have hbn := below_new1 Vm (.cells #[.int .i64 nn, .int .i64 nd] 29)
      replace kp := Lib.hid (kp.out.keep hbn)
      replace kq := Lib.hid (kq.out.keep hbn)
      replace kt := Lib.hid (kt.out.keep hbn)
      replace km := Lib.hid (km.out.keep hbn)
      have zn : (Vm.alloc (.cells #[.int .i64 nn, .int .i64 nd] 29)).heap.size = Vm.heap.size + 1 := by simp
      replace HB := Lib.hid (HB.out.trans (hbn.mono HB.out.size))
      have kn := Lib.hid (Lok.new Vm 29 #[.int .i64 nn, .int .i64 nd])
      clear hbn
      generalize Vm.alloc (.cells #[.int .i64 nn, .int .i64 nd] 29) = Vn at *
      rw [zm] at kn
      clear zm zn
      generalize w1.heap.size = gm at *
      go_wp2_with fail
      have H0 := HB
      have hrb' := Lib.hid hrb
      clear HB hrb
      go_loopw [10] (fun x wr => ∃ j : Nat, x = .int .i64 j ∧ j ≤ 3 ∧ Below Vn.heap.size Vn wr) (fun x _ => 3 - (intOf x).toNat)
      case atStart => exact ⟨0, rfl, Nat.zero_le _, Below.refl _ _⟩
      case round =>
        obtain ⟨j, rfl, hj, hB0⟩ := hrel
        replace kp := Lib.hid (kp.out.keep hB0)
        replace kq := Lib.hid (kq.out.keep hB0)
        replace kt := Lib.hid (kt.out.keep hB0)
        replace km := Lib.hid (km.out.keep hB0)
        replace kn := Lib.hid (kn.out.keep hB0)
        have HB := Lib.hid (H0.out.trans (hB0.mono H0.out.size))
        have H1 := Lib.hid hB0
        clear hB0
        rcases (show j = 0 ∨ j = 1 ∨ j = 2 ∨ j = 3 by omega) with rfl | rfl | rfl | rfl
        · go_upto_region 7 with fail
          have qp0 : ∀ D : Of (PastV wr), _ := fun D => (kp.out.keep (show Below wr.heap.size wr D.world from D.holds)).cell (i := 0) rfl
          have qp1 : ∀ D : Of (PastV wr), _ := fun D => (kp.out.keep (show Below wr.heap.size wr D.world from D.holds)).cell (i := 1) rfl
          have qt0 : ∀ D : Of (PastV wr), _ := fun D => (kt.out.keep (show Below wr.heap.size wr D.world from D.holds)).cell (i := 0) rfl
          have qt1 : ∀ D : Of (PastV wr), _ := fun D => (kt.out.keep (show Below wr.heap.size wr D.world from D.holds)).cell (i := 1) rfl
          have qt2 : ∀ D : Of (PastV wr), _ := fun D => (kt.out.keep (show Below wr.heap.size wr D.world from D.holds)).cell (i := 2) rfl
          have qt3 : ∀ D : Of (PastV wr), _ := fun D => (kt.out.keep (show Below wr.heap.size wr D.world from D.holds)).cell (i := 3) rfl
          have qt4 : ∀ D : Of (PastV wr), _ := fun D => (kt.out.keep (show Below wr.heap.size wr D.world from D.holds)).cell (i := 4) rfl
          have qt5 : ∀ D : Of (PastV wr), _ := fun D => (kt.out.keep (show Below wr.heap.size wr D.world from D.holds)).cell (i := 5) rfl
          have qn0 : ∀ D : Of (PastV wr), _ := fun D => (kn.out.keep (show Below wr.heap.size wr D.world from D.holds)).cell (i := 0) rfl
          have qn1 : ∀ D : Of (PastV wr), _ := fun D => (kn.out.keep (show Below wr.heap.size wr D.world from D.holds)).cell (i := 1) rfl
          have ST := Lib.hid (pastV_stays wr)
          have ne : Nonempty (Of (PastV wr)) := ⟨⟨wr, Below.refl _ _⟩⟩
          refine wp_region_class (S := PastV wr) (by kernel_rfl) (by kernel_rfl) (Below.refl _ _).drew ?_
          repeat (go_big_quiet_step (first | (go_at_call 20; first | (with_reducible exact class_call ST.out _ (Q0.out _))) | (go_at_call 19; first | (with_reducible exact class_call ST.out _ (K0.out _)))))
          refine wpQuiet_nil ?_
          rintro _ ⟨D, rfl⟩
          have hD : Below wr.heap.size wr D.world := D.holds
          have H2 := Lib.hid (H1.out.trans (hD.mono H1.out.size))
          replace HB := Lib.hid (HB.out.trans (hD.mono HB.out.size))
          replace kp := Lib.hid (kp.out.keep hD)
          replace kq := Lib.hid (kq.out.keep hD)
          replace kt := Lib.hid (kt.out.keep hD)
          replace km := Lib.hid (km.out.keep hD)
          replace kn := Lib.hid (kn.out.keep hD)
          generalize D.world = vd at *
          clear qp0 qp1 qt0 qt1 qt2 qt3 qt4 qt5 qn0 qn1 ne ST hD
          go_wp2
          go_roundw
          case rel => exact ⟨1, rfl, by omega, H2.out⟩
          case measure => simp [intOf]
        · go_upto_region 7 with fail
          have qp0 : ∀ D : Of (PastV wr), _ := fun D => (kp.out.keep (show Below wr.heap.size wr D.world from D.holds)).cell (i := 0) rfl
          have qp1 : ∀ D : Of (PastV wr), _ := fun D => (kp.out.keep (show Below wr.heap.size wr D.world from D.holds)).cell (i := 1) rfl
          have qt0 : ∀ D : Of (PastV wr), _ := fun D => (kt.out.keep (show Below wr.heap.size wr D.world from D.holds)).cell (i := 0) rfl
          have qt1 : ∀ D : Of (PastV wr), _ := fun D => (kt.out.keep (show Below wr.heap.size wr D.world from D.holds)).cell (i := 1) rfl
          have qt2 : ∀ D : Of (PastV wr), _ := fun D => (kt.out.keep (show Below wr.heap.size wr D.world from D.holds)).cell (i := 2) rfl
          have qt3 : ∀ D : Of (PastV wr), _ := fun D => (kt.out.keep (show Below wr.heap.size wr D.world from D.holds)).cell (i := 3) rfl
          have qt4 : ∀ D : Of (PastV wr), _ := fun D => (kt.out.keep (show Below wr.heap.size wr D.world from D.holds)).cell (i := 4) rfl
          have qt5 : ∀ D : Of (PastV wr), _ := fun D => (kt.out.keep (show Below wr.heap.size wr D.world from D.holds)).cell (i := 5) rfl
          have qn0 : ∀ D : Of (PastV wr), _ := fun D => (kn.out.keep (show Below wr.heap.size wr D.world from D.holds)).cell (i := 0) rfl
          have qn1 : ∀ D : Of (PastV wr), _ := fun D => (kn.out.keep (show Below wr.heap.size wr D.world from D.holds)).cell (i := 1) rfl
          have ST := Lib.hid (pastV_stays wr)
          have ne : Nonempty (Of (PastV wr)) := ⟨⟨wr, Below.refl _ _⟩⟩
          refine wp_region_class (S := PastV wr) (by kernel_rfl) (by kernel_rfl) (Below.refl _ _).drew ?_
          repeat (go_big_quiet_step (first | (go_at_call 20; first | (with_reducible exact class_call ST.out _ (Q1.out _))) | (go_at_call 19; first | (with_reducible exact class_call ST.out _ (K1.out _)))))
          refine wpQuiet_nil ?_
          rintro _ ⟨D, rfl⟩
          have hD : Below wr.heap.size wr D.world := D.holds
          have H2 := Lib.hid (H1.out.trans (hD.mono H1.out.size))
          replace HB := Lib.hid (HB.out.trans (hD.mono HB.out.size))
          replace kp := Lib.hid (kp.out.keep hD)
          replace kq := Lib.hid (kq.out.keep hD)
          replace kt := Lib.hid (kt.out.keep hD)
          replace km := Lib.hid (km.out.keep hD)
          replace kn := Lib.hid (kn.out.keep hD)
          generalize D.world = vd at *
          clear qp0 qp1 qt0 qt1 qt2 qt3 qt4 qt5 qn0 qn1 ne ST hD
          go_wp2
          go_roundw
          case rel => exact ⟨2, rfl, by omega, H2.out⟩
          case measure => simp [intOf]
        · go_upto_region 7 with fail
          have qp0 : ∀ D : Of (PastV wr), _ := fun D => (kp.out.keep (show Below wr.heap.size wr D.world from D.holds)).cell (i := 0) rfl
          have qp1 : ∀ D : Of (PastV wr), _ := fun D => (kp.out.keep (show Below wr.heap.size wr D.world from D.holds)).cell (i := 1) rfl
          have qt0 : ∀ D : Of (PastV wr), _ := fun D => (kt.out.keep (show Below wr.heap.size wr D.world from D.holds)).cell (i := 0) rfl
          have qt1 : ∀ D : Of (PastV wr), _ := fun D => (kt.out.keep (show Below wr.heap.size wr D.world from D.holds)).cell (i := 1) rfl
          have qt2 : ∀ D : Of (PastV wr), _ := fun D => (kt.out.keep (show Below wr.heap.size wr D.world from D.holds)).cell (i := 2) rfl
          have qt3 : ∀ D : Of (PastV wr), _ := fun D => (kt.out.keep (show Below wr.heap.size wr D.world from D.holds)).cell (i := 3) rfl
          have qt4 : ∀ D : Of (PastV wr), _ := fun D => (kt.out.keep (show Below wr.heap.size wr D.world from D.holds)).cell (i := 4) rfl
          have qt5 : ∀ D : Of (PastV wr), _ := fun D => (kt.out.keep (show Below wr.heap.size wr D.world from D.holds)).cell (i := 5) rfl
          have qn0 : ∀ D : Of (PastV wr), _ := fun D => (kn.out.keep (show Below wr.heap.size wr D.world from D.holds)).cell (i := 0) rfl
          have qn1 : ∀ D : Of (PastV wr), _ := fun D => (kn.out.keep (show Below wr.heap.size wr D.world from D.holds)).cell (i := 1) rfl
          have ST := Lib.hid (pastV_stays wr)
          have ne : Nonempty (Of (PastV wr)) := ⟨⟨wr, Below.refl _ _⟩⟩
          refine wp_region_class (S := PastV wr) (by kernel_rfl) (by kernel_rfl) (Below.refl _ _).drew ?_
          repeat (go_big_quiet_step (first | (go_at_call 20; first | (with_reducible exact class_call ST.out _ (Q2.out _))) | (go_at_call 19; first | (with_reducible exact class_call ST.out _ (K2.out _)))))
          refine wpQuiet_nil ?_
          rintro _ ⟨D, rfl⟩
          have hD : Below wr.heap.size wr D.world := D.holds
          have H2 := Lib.hid (H1.out.trans (hD.mono H1.out.size))
          replace HB := Lib.hid (HB.out.trans (hD.mono HB.out.size))
          replace kp := Lib.hid (kp.out.keep hD)
          replace kq := Lib.hid (kq.out.keep hD)
          replace kt := Lib.hid (kt.out.keep hD)
          replace km := Lib.hid (km.out.keep hD)
          replace kn := Lib.hid (kn.out.keep hD)
          generalize D.world = vd at *
          clear qp0 qp1 qt0 qt1 qt2 qt3 qt4 qt5 qn0 qn1 ne ST hD
          go_wp2
          go_roundw
          case rel => exact ⟨3, rfl, by omega, H2.out⟩
          case measure => simp [intOf]
        · clear d0 d1 d2 K0 K1 K2 Q0 Q1 Q2 H1
          have hrb := hrb'.out
          cases hz : s2 z1 z2 with
          | false =>
            rw [hz, iE_no, show iV false true r = 0 from rfl] at IN
            clear hz lq QZ hrb
            have q0 := kq.out.cell (i := 0) rfl
            have q1 := kq.out.cell (i := 1) rfl
            have t0 := kt.out.cell (i := 0) rfl
            have t1 := kt.out.cell (i := 1) rfl
            have t2 := kt.out.cell (i := 2) rfl
            have t3 := kt.out.cell (i := 3) rfl
            have t4 := kt.out.cell (i := 4) rfl
            have t5 := kt.out.cell (i := 5) rfl
            go_wp2_with fail
            clear q0 q1 t0 t1 t2 t3 t4 t5
            (((with_reducible refine (IN.out _).mono ?_); rintro e w2 ⟨rfl, hb2⟩); replace HB := Lib.hid (HB.out.trans (hb2.mono HB.out.size)); replace kp := Lib.hid (kp.out.keep hb2); replace kq := Lib.hid (kq.out.keep hb2); replace kt := Lib.hid (kt.out.keep hb2); replace kn := Lib.hid (kn.out.keep hb2); clear hb2)
            go_wp2_with fail
            (((with_reducible refine (ME.out _).mono ?_); rintro e w3 ⟨rfl, hb3⟩); replace HB := Lib.hid (HB.out.trans (hb3.mono HB.out.size)); replace kp := Lib.hid (kp.out.keep hb3); clear hb3)
            go_wp2
            go_ret
            exact ⟨rfl, HB.out⟩
          | true =>
            rw [hz, iE_yes, show iV true true r = r + 1 from rfl] at IN
            by_cases hr : 0 ≤ r
            · have cz := lq.out hz hr
              replace QZ := Lib.hid (QZ.out hz)
              generalize sq x y z1 z2 = sz at *
              generalize cmpF nn nd sz 1 = mz at *
              replace cz : decide (mz ≤ 0) = true := decide_eq_true cz
              obtain ⟨i, hi⟩ : ∃ v, r + 1 = v := ⟨_, rfl⟩
              rw [hi] at IN
              have iz : (i == 0) = false := by rw [beq_eq_false_iff_ne]; omega
              clear hz lq hrb hr hi
              have q0 := kq.out.cell (i := 0) rfl
              have q1 := kq.out.cell (i := 1) rfl
              have t0 := kt.out.cell (i := 0) rfl
              have t1 := kt.out.cell (i := 1) rfl
              have t2 := kt.out.cell (i := 2) rfl
              have t3 := kt.out.cell (i := 3) rfl
              have t4 := kt.out.cell (i := 4) rfl
              have t5 := kt.out.cell (i := 5) rfl
              go_wp2_with fail
              clear q0 q1 t0 t1 t2 t3 t4 t5
              (((with_reducible refine (IN.out _).mono ?_); rintro e w2 ⟨rfl, hb2⟩); replace HB := Lib.hid (HB.out.trans (hb2.mono HB.out.size)); replace kp := Lib.hid (kp.out.keep hb2); replace kq := Lib.hid (kq.out.keep hb2); replace kt := Lib.hid (kt.out.keep hb2); replace kn := Lib.hid (kn.out.keep hb2); clear hb2)
              go_upto_region 12 with fail
              clear kt
              have qp0 : ∀ D : Of (PastV w2), _ := fun D => (kp.out.keep (show Below w2.heap.size w2 D.world from D.holds)).cell (i := 0) rfl
              have qp1 : ∀ D : Of (PastV w2), _ := fun D => (kp.out.keep (show Below w2.heap.size w2 D.world from D.holds)).cell (i := 1) rfl
              have qq0 : ∀ D : Of (PastV w2), _ := fun D => (kq.out.keep (show Below w2.heap.size w2 D.world from D.holds)).cell (i := 0) rfl
              have qq1 : ∀ D : Of (PastV w2), _ := fun D => (kq.out.keep (show Below w2.heap.size w2 D.world from D.holds)).cell (i := 1) rfl
              have qn0 : ∀ D : Of (PastV w2), _ := fun D => (kn.out.keep (show Below w2.heap.size w2 D.world from D.holds)).cell (i := 0) rfl
              have qn1 : ∀ D : Of (PastV w2), _ := fun D => (kn.out.keep (show Below w2.heap.size w2 D.world from D.holds)).cell (i := 1) rfl
              have ST := Lib.hid (pastV_stays w2)
              have ne : Nonempty (Of (PastV w2)) := ⟨⟨w2, Below.refl _ _⟩⟩
              refine wp_region_class (S := PastV w2) (by kernel_rfl) (by kernel_rfl) (Below.refl _ _).drew ?_
              repeat (go_big_quiet_step (first | (go_at_call 16; first | (with_reducible exact class_call ST.out _ (ME.out _))) | (go_at_call 20; first | (with_reducible exact class_call ST.out _ (QZ.out _))) | (go_at_call 19; first | (with_reducible exact class_call ST.out _ (KZ.out _)))))
              refine wpQuiet_nil ?_
              rintro _ ⟨D, rfl⟩
              have hD : Below w2.heap.size w2 D.world := D.holds
              replace HB := Lib.hid (HB.out.trans (hD.mono HB.out.size))
              replace kp := Lib.hid (kp.out.keep hD)
              replace kq := Lib.hid (kq.out.keep hD)
              replace kn := Lib.hid (kn.out.keep hD)
              generalize D.world = vd at *
              clear qp0 qp1 qq0 qq1 qn0 qn1 ne ST hD
              go_wp2
              go_ret
              exact ⟨rfl, HB.out⟩
            · rw [show r + 1 = 0 by omega] at IN
              clear hz lq hrb hr QZ
              have q0 := kq.out.cell (i := 0) rfl
              have q1 := kq.out.cell (i := 1) rfl
              have t0 := kt.out.cell (i := 0) rfl
              have t1 := kt.out.cell (i := 1) rfl
              have t2 := kt.out.cell (i := 2) rfl
              have t3 := kt.out.cell (i := 3) rfl
              have t4 := kt.out.cell (i := 4) rfl
              have t5 := kt.out.cell (i := 5) rfl
              go_wp2_with fail
              clear q0 q1 t0 t1 t2 t3 t4 t5
              (((with_reducible refine (IN.out _).mono ?_); rintro e w2 ⟨rfl, hb2⟩); replace HB := Lib.hid (HB.out.trans (hb2.mono HB.out.size)); replace kp := Lib.hid (kp.out.keep hb2); replace kq := Lib.hid (kq.out.keep hb2); replace kt := Lib.hid (kt.out.keep hb2); replace kn := Lib.hid (kn.out.keep hb2); clear hb2)
              go_wp2_with fail
              (((with_reducible refine (ME.out _).mono ?_); rintro e w3 ⟨rfl, hb3⟩); replace HB := Lib.hid (HB.out.trans (hb3.mono HB.out.size)); replace kp := Lib.hid (kp.out.keep hb3); clear hb3)
              go_wp2
              go_ret
              exact ⟨rfl, HB.out⟩
end Go.Proofs.Ytllamakemgogaaa
