/-
  Contracts of package near: Closest. (gen/NrF.py)
-/
import Derived.Test.YtllamakemgogaaaNrE
namespace Go.Proofs.Ytllamakemgogaaa
open Go.RowKit

/-- What Closest tells: p's own, where p is in the triangle, else what is nearest. -/
def clV (s t : Bool) (r p q : Int) : Int := if s = true then (if t = true then (if r < 0 then q else p) else 0) else 0
theorem clV_out {r : Int} (p q : Int) (h : r < 0) : clV true true r p q = q := if_pos h
theorem clV_in {r : Int} (p q : Int) (h : ¬ r < 0) : clV true true r p q = p := if_neg h
theorem in_bd (a1 a2 b1 b2 c1 c2 x y : Int) : -1 ≤ r1 a1 a2 b1 b2 c1 c2 x y ∧ r1 a1 a2 b1 b2 c1 c2 x y ≤ 1 := rc_bd _ _ _ _ _ _ _ _
set_option maxRecDepth 100000 in
set_option maxHeartbeats 4000000 in
theorem closest_any (x y a1 a2 b1 b2 c1 c2 : Int) (w : World) :
    Calls Try.prog 10 #[.agg #[.int .i64 x, .int .i64 y], .agg #[.int .i64 a1, .int .i64 a2, .int .i64 b1, .int .i64 b2, .int .i64 c1, .int .i64 c2]] w fun e' w' => e' = .returned (.tuple #[.agg #[.int .i64 (clV (s2 x y) (rT a1 a2 b1 b2 c1 c2) (r1 a1 a2 b1 b2 c1 c2 x y) x (nrS x y a1 a2 b1 b2 c1 c2 fX)), .int .i64 (clV (s2 x y) (rT a1 a2 b1 b2 c1 c2) (r1 a1 a2 b1 b2 c1 c2 x y) y (nrS x y a1 a2 b1 b2 c1 c2 fY))], .agg #[.int .i64 (clV (s2 x y) (rT a1 a2 b1 b2 c1 c2) (r1 a1 a2 b1 b2 c1 c2 x y) 0 (nrS x y a1 a2 b1 b2 c1 c2 fN)), .int .i64 (clV (s2 x y) (rT a1 a2 b1 b2 c1 c2) (r1 a1 a2 b1 b2 c1 c2 x y) 1 (nrS x y a1 a2 b1 b2 c1 c2 fD))], .int .i64 (iE (s2 x y) (rT a1 a2 b1 b2 c1 c2))]) ∧ Below w.heap.size w w' := by
  have HB := Lib.hid (Below.refl w.heap.size w)
  have IN := Lib.hid (fun W => in_any x y a1 a2 b1 b2 c1 c2 W)
  cases hs : s2 x y with
  | false =>
    rw [hs] at IN
    show Calls _ _ _ _ fun e' w' => e' = .returned (.tuple #[.agg #[.int .i64 0, .int .i64 0], .agg #[.int .i64 0, .int .i64 0], .int .i64 5]) ∧ _
    rw [show iV false (rT a1 a2 b1 b2 c1 c2) (r1 a1 a2 b1 b2 c1 c2 x y) = 0 from rfl, show iE false (rT a1 a2 b1 b2 c1 c2) = 5 from rfl] at IN
    clear hs
    go_enter Try.func10, Try.ntmps10
    go_upto_region 1 with fail
    have hbp := below_new1 w (.cells #[.int .i64 x, .int .i64 y] 23)
    have zp : (w.alloc (.cells #[.int .i64 x, .int .i64 y] 23)).heap.size = w.heap.size + 1 := by simp
    have HB := Lib.hid hbp
    have kp := Lib.hid (Lok.new w 23 #[.int .i64 x, .int .i64 y])
    clear hbp
    generalize w.alloc (.cells #[.int .i64 x, .int .i64 y] 23) = Vp at *
    have hbt := below_new1 Vp (.cells #[.int .i64 a1, .int .i64 a2, .int .i64 b1, .int .i64 b2, .int .i64 c1, .int .i64 c2] 24)
    replace kp := Lib.hid (kp.out.keep hbt)
    have zt : (Vp.alloc (.cells #[.int .i64 a1, .int .i64 a2, .int .i64 b1, .int .i64 b2, .int .i64 c1, .int .i64 c2] 24)).heap.size = Vp.heap.size + 1 := by simp
    replace HB := Lib.hid (HB.out.trans (hbt.mono HB.out.size))
    have kt := Lib.hid (Lok.new Vp 24 #[.int .i64 a1, .int .i64 a2, .int .i64 b1, .int .i64 b2, .int .i64 c1, .int .i64 c2])
    clear hbt
    generalize Vp.alloc (.cells #[.int .i64 a1, .int .i64 a2, .int .i64 b1, .int .i64 b2, .int .i64 c1, .int .i64 c2] 24) = Vt at *
    rw [zp] at kt zt
    have hbr := below_new1 Vt (.cells #[.int .i64 0, .int .i64 0] 23)
    replace kp := Lib.hid (kp.out.keep hbr)
    replace kt := Lib.hid (kt.out.keep hbr)
    have zr : (Vt.alloc (.cells #[.int .i64 0, .int .i64 0] 23)).heap.size = Vt.heap.size + 1 := by simp
    replace HB := Lib.hid (HB.out.trans (hbr.mono HB.out.size))
    have kr := Lib.hid (Lok.new Vt 23 #[.int .i64 0, .int .i64 0])
    clear hbr
    generalize Vt.alloc (.cells #[.int .i64 0, .int .i64 0] 23) = Vr at *
    rw [zt] at kr zr
    have hbs := below_new1 Vr (.cells #[.int .i64 0, .int .i64 0] 29)
    replace kp := Lib.hid (kp.out.keep hbs)
    replace kt := Lib.hid (kt.out.keep hbs)
    replace kr := Lib.hid (kr.out.keep hbs)
    have zs : (Vr.alloc (.cells #[.int .i64 0, .int .i64 0] 29)).heap.size = Vr.heap.size + 1 := by simp
    replace HB := Lib.hid (HB.out.trans (hbs.mono HB.out.size))
    have ks := Lib.hid (Lok.new Vr 29 #[.int .i64 0, .int .i64 0])
    clear hbs
    generalize Vr.alloc (.cells #[.int .i64 0, .int .i64 0] 29) = Vs at *
    rw [zr] at ks
    clear zp zt zr zs
    have p0 := kp.out.cell (i := 0) rfl
    have p1 := kp.out.cell (i := 1) rfl
    have t0 := kt.out.cell (i := 0) rfl
    have t1 := kt.out.cell (i := 1) rfl
    have t2 := kt.out.cell (i := 2) rfl
    have t3 := kt.out.cell (i := 3) rfl
    have t4 := kt.out.cell (i := 4) rfl
    have t5 := kt.out.cell (i := 5) rfl
    go_wp2_with fail
    clear p0 p1 t0 t1 t2 t3 t4 t5
    (((with_reducible refine (IN.out _).mono ?_); rintro e w1 ⟨rfl, hb1⟩); replace HB := Lib.hid (HB.out.trans (hb1.mono HB.out.size)); replace kp := Lib.hid (kp.out.keep hb1); replace kt := Lib.hid (kt.out.keep hb1); replace kr := Lib.hid (kr.out.keep hb1); replace ks := Lib.hid (ks.out.keep hb1); clear hb1)
    have r0 := kr.out.cell (i := 0) rfl
    have r1 := kr.out.cell (i := 1) rfl
    have s0 := ks.out.cell (i := 0) rfl
    have s1 := ks.out.cell (i := 1) rfl
    have fr0 := kr.out.frozen 0
    have fr1 := kr.out.frozen 1
    have fs0 := ks.out.frozen 0
    have fs1 := ks.out.frozen 1
    go_wp2_with fail
    exact bodyPost_ret (v := .tuple #[.agg #[.int .i64 0, .int .i64 0], .agg #[.int .i64 0, .int .i64 0], .int .i64 5]) (by simp [results, Try.results10, go_sem, r0, r1, s0, s1]) rfl ⟨rfl, (((HB.out.setCell (by simp <;> omega) _).setCell (by simp <;> omega) _).setCell (by simp <;> omega) _).setCell (by simp <;> omega) _⟩
  | true =>
    rw [hs] at IN
    cases ha : rT a1 a2 b1 b2 c1 c2 with
    | false =>
      rw [ha] at IN
      show Calls _ _ _ _ fun e' w' => e' = .returned (.tuple #[.agg #[.int .i64 0, .int .i64 0], .agg #[.int .i64 0, .int .i64 0], .int .i64 1]) ∧ _
      rw [show iV true false (r1 a1 a2 b1 b2 c1 c2 x y) = 0 from rfl, show iE true false = 1 from rfl] at IN
      clear hs ha
      go_enter Try.func10, Try.ntmps10
      go_upto_region 1 with fail
      have hbp := below_new1 w (.cells #[.int .i64 x, .int .i64 y] 23)
      have zp : (w.alloc (.cells #[.int .i64 x, .int .i64 y] 23)).heap.size = w.heap.size + 1 := by simp
      have HB := Lib.hid hbp
      have kp := Lib.hid (Lok.new w 23 #[.int .i64 x, .int .i64 y])
      clear hbp
      generalize w.alloc (.cells #[.int .i64 x, .int .i64 y] 23) = Vp at *
      have hbt := below_new1 Vp (.cells #[.int .i64 a1, .int .i64 a2, .int .i64 b1, .int .i64 b2, .int .i64 c1, .int .i64 c2] 24)
      replace kp := Lib.hid (kp.out.keep hbt)
      have zt : (Vp.alloc (.cells #[.int .i64 a1, .int .i64 a2, .int .i64 b1, .int .i64 b2, .int .i64 c1, .int .i64 c2] 24)).heap.size = Vp.heap.size + 1 := by simp
      replace HB := Lib.hid (HB.out.trans (hbt.mono HB.out.size))
      have kt := Lib.hid (Lok.new Vp 24 #[.int .i64 a1, .int .i64 a2, .int .i64 b1, .int .i64 b2, .int .i64 c1, .int .i64 c2])
      clear hbt
      generalize Vp.alloc (.cells #[.int .i64 a1, .int .i64 a2, .int .i64 b1, .int .i64 b2, .int .i64 c1, .int .i64 c2] 24) = Vt at *
      rw [zp] at kt zt
      have hbr := below_new1 Vt (.cells #[.int .i64 0, .int .i64 0] 23)
      replace kp := Lib.hid (kp.out.keep hbr)
      replace kt := Lib.hid (kt.out.keep hbr)
      have zr : (Vt.alloc (.cells #[.int .i64 0, .int .i64 0] 23)).heap.size = Vt.heap.size + 1 := by simp
      replace HB := Lib.hid (HB.out.trans (hbr.mono HB.out.size))
      have kr := Lib.hid (Lok.new Vt 23 #[.int .i64 0, .int .i64 0])
      clear hbr
      generalize Vt.alloc (.cells #[.int .i64 0, .int .i64 0] 23) = Vr at *
      rw [zt] at kr zr
      have hbs := below_new1 Vr (.cells #[.int .i64 0, .int .i64 0] 29)
      replace kp := Lib.hid (kp.out.keep hbs)
      replace kt := Lib.hid (kt.out.keep hbs)
      replace kr := Lib.hid (kr.out.keep hbs)
      have zs : (Vr.alloc (.cells #[.int .i64 0, .int .i64 0] 29)).heap.size = Vr.heap.size + 1 := by simp
      replace HB := Lib.hid (HB.out.trans (hbs.mono HB.out.size))
      have ks := Lib.hid (Lok.new Vr 29 #[.int .i64 0, .int .i64 0])
      clear hbs
      generalize Vr.alloc (.cells #[.int .i64 0, .int .i64 0] 29) = Vs at *
      rw [zr] at ks
      clear zp zt zr zs
      have p0 := kp.out.cell (i := 0) rfl
      have p1 := kp.out.cell (i := 1) rfl
      have t0 := kt.out.cell (i := 0) rfl
      have t1 := kt.out.cell (i := 1) rfl
      have t2 := kt.out.cell (i := 2) rfl
      have t3 := kt.out.cell (i := 3) rfl
      have t4 := kt.out.cell (i := 4) rfl
      have t5 := kt.out.cell (i := 5) rfl
      go_wp2_with fail
      clear p0 p1 t0 t1 t2 t3 t4 t5
      (((with_reducible refine (IN.out _).mono ?_); rintro e w1 ⟨rfl, hb1⟩); replace HB := Lib.hid (HB.out.trans (hb1.mono HB.out.size)); replace kp := Lib.hid (kp.out.keep hb1); replace kt := Lib.hid (kt.out.keep hb1); replace kr := Lib.hid (kr.out.keep hb1); replace ks := Lib.hid (ks.out.keep hb1); clear hb1)
      have r0 := kr.out.cell (i := 0) rfl
      have r1 := kr.out.cell (i := 1) rfl
      have s0 := ks.out.cell (i := 0) rfl
      have s1 := ks.out.cell (i := 1) rfl
      have fr0 := kr.out.frozen 0
      have fr1 := kr.out.frozen 1
      have fs0 := ks.out.frozen 0
      have fs1 := ks.out.frozen 1
      go_wp2_with fail
      exact bodyPost_ret (v := .tuple #[.agg #[.int .i64 0, .int .i64 0], .agg #[.int .i64 0, .int .i64 0], .int .i64 1]) (by simp [results, Try.results10, go_sem, r0, r1, s0, s1]) rfl ⟨rfl, (((HB.out.setCell (by simp <;> omega) _).setCell (by simp <;> omega) _).setCell (by simp <;> omega) _).setCell (by simp <;> omega) _⟩
    | true =>
      rw [ha] at IN
      rw [show iV true true (r1 a1 a2 b1 b2 c1 c2 x y) = r1 a1 a2 b1 b2 c1 c2 x y + 1 from rfl] at IN
      rw [show iE true true = 0 from rfl] at IN ⊢
      have hb := in_bd a1 a2 b1 b2 c1 c2 x y
      by_cases hr : r1 a1 a2 b1 b2 c1 c2 x y < 0
      · rw [clV_out _ _ hr, clV_out _ _ hr, clV_out _ _ hr, clV_out _ _ hr]
        rw [show r1 a1 a2 b1 b2 c1 c2 x y + 1 = 0 by omega] at IN
        obtain ⟨h1, h2, h3⟩ := small_of3 (rT_small ha)
        have NN := Lib.hid (fun W => nearest_any x y a1 a2 b1 b2 c1 c2 hs h1 h2 h3 W)
        generalize nrS x y a1 a2 b1 b2 c1 c2 fX = nu at *
        generalize nrS x y a1 a2 b1 b2 c1 c2 fY = nv at *
        generalize nrS x y a1 a2 b1 b2 c1 c2 fN = nn at *
        generalize nrS x y a1 a2 b1 b2 c1 c2 fD = nd at *
        clear hs ha h1 h2 h3 hb hr
        go_enter Try.func10, Try.ntmps10
        go_upto_region 1 with fail
        have hbp := below_new1 w (.cells #[.int .i64 x, .int .i64 y] 23)
        have zp : (w.alloc (.cells #[.int .i64 x, .int .i64 y] 23)).heap.size = w.heap.size + 1 := by simp
        have HB := Lib.hid hbp
        have kp := Lib.hid (Lok.new w 23 #[.int .i64 x, .int .i64 y])
        clear hbp
        generalize w.alloc (.cells #[.int .i64 x, .int .i64 y] 23) = Vp at *
        have hbt := below_new1 Vp (.cells #[.int .i64 a1, .int .i64 a2, .int .i64 b1, .int .i64 b2, .int .i64 c1, .int .i64 c2] 24)
        replace kp := Lib.hid (kp.out.keep hbt)
        have zt : (Vp.alloc (.cells #[.int .i64 a1, .int .i64 a2, .int .i64 b1, .int .i64 b2, .int .i64 c1, .int .i64 c2] 24)).heap.size = Vp.heap.size + 1 := by simp
        replace HB := Lib.hid (HB.out.trans (hbt.mono HB.out.size))
        have kt := Lib.hid (Lok.new Vp 24 #[.int .i64 a1, .int .i64 a2, .int .i64 b1, .int .i64 b2, .int .i64 c1, .int .i64 c2])
        clear hbt
        generalize Vp.alloc (.cells #[.int .i64 a1, .int .i64 a2, .int .i64 b1, .int .i64 b2, .int .i64 c1, .int .i64 c2] 24) = Vt at *
        rw [zp] at kt zt
        have hbr := below_new1 Vt (.cells #[.int .i64 0, .int .i64 0] 23)
        replace kp := Lib.hid (kp.out.keep hbr)
        replace kt := Lib.hid (kt.out.keep hbr)
        have zr : (Vt.alloc (.cells #[.int .i64 0, .int .i64 0] 23)).heap.size = Vt.heap.size + 1 := by simp
        replace HB := Lib.hid (HB.out.trans (hbr.mono HB.out.size))
        have kr := Lib.hid (Lok.new Vt 23 #[.int .i64 0, .int .i64 0])
        clear hbr
        generalize Vt.alloc (.cells #[.int .i64 0, .int .i64 0] 23) = Vr at *
        rw [zt] at kr zr
        have hbs := below_new1 Vr (.cells #[.int .i64 0, .int .i64 0] 29)
        replace kp := Lib.hid (kp.out.keep hbs)
        replace kt := Lib.hid (kt.out.keep hbs)
        replace kr := Lib.hid (kr.out.keep hbs)
        have zs : (Vr.alloc (.cells #[.int .i64 0, .int .i64 0] 29)).heap.size = Vr.heap.size + 1 := by simp
        replace HB := Lib.hid (HB.out.trans (hbs.mono HB.out.size))
        have ks := Lib.hid (Lok.new Vr 29 #[.int .i64 0, .int .i64 0])
        clear hbs
        generalize Vr.alloc (.cells #[.int .i64 0, .int .i64 0] 29) = Vs at *
        rw [zr] at ks
        clear zp zt zr zs
        have p0 := kp.out.cell (i := 0) rfl
        have p1 := kp.out.cell (i := 1) rfl
        have t0 := kt.out.cell (i := 0) rfl
        have t1 := kt.out.cell (i := 1) rfl
        have t2 := kt.out.cell (i := 2) rfl
        have t3 := kt.out.cell (i := 3) rfl
        have t4 := kt.out.cell (i := 4) rfl
        have t5 := kt.out.cell (i := 5) rfl
        go_wp2_with fail
        clear p0 p1 t0 t1 t2 t3 t4 t5
        (((with_reducible refine (IN.out _).mono ?_); rintro e w1 ⟨rfl, hb1⟩); replace HB := Lib.hid (HB.out.trans (hb1.mono HB.out.size)); replace kp := Lib.hid (kp.out.keep hb1); replace kt := Lib.hid (kt.out.keep hb1); replace kr := Lib.hid (kr.out.keep hb1); replace ks := Lib.hid (ks.out.keep hb1); clear hb1)
        have p0 := kp.out.cell (i := 0) rfl
        have p1 := kp.out.cell (i := 1) rfl
        have t0 := kt.out.cell (i := 0) rfl
        have t1 := kt.out.cell (i := 1) rfl
        have t2 := kt.out.cell (i := 2) rfl
        have t3 := kt.out.cell (i := 3) rfl
        have t4 := kt.out.cell (i := 4) rfl
        have t5 := kt.out.cell (i := 5) rfl
        go_wp2_with fail
        clear p0 p1 t0 t1 t2 t3 t4 t5
        (((with_reducible refine (NN.out _).mono ?_); rintro e w2 ⟨rfl, hb2⟩); replace HB := Lib.hid (HB.out.trans (hb2.mono HB.out.size)); replace kp := Lib.hid (kp.out.keep hb2); replace kt := Lib.hid (kt.out.keep hb2); replace kr := Lib.hid (kr.out.keep hb2); replace ks := Lib.hid (ks.out.keep hb2); clear hb2)
        go_upto_region 7 with fail
        have hlt := ks.out.lt
        have hbm := below_new1 w2 (.cells #[.int .i64 nu, .int .i64 nv] 23)
        replace kp := Lib.hid (kp.out.keep hbm)
        replace kt := Lib.hid (kt.out.keep hbm)
        replace kr := Lib.hid (kr.out.keep hbm)
        replace ks := Lib.hid (ks.out.keep hbm)
        have zm : (w2.alloc (.cells #[.int .i64 nu, .int .i64 nv] 23)).heap.size = w2.heap.size + 1 := by simp
        replace HB := Lib.hid (HB.out.trans (hbm.mono HB.out.size))
        have km := Lib.hid (Lok.new w2 23 #[.int .i64 nu, .int .i64 nv])
        clear hbm
        generalize w2.alloc (.cells #[.int .i64 nu, .int .i64 nv] 23) = Vm at *
        have hbq := below_new1 Vm (.cells #[.int .i64 nn, .int .i64 nd] 29)
        replace kp := Lib.hid (kp.out.keep hbq)
        replace kt := Lib.hid (kt.out.keep hbq)
        replace kr := Lib.hid (kr.out.keep hbq)
        replace ks := Lib.hid (ks.out.keep hbq)
        replace km := Lib.hid (km.out.keep hbq)
        have zq : (Vm.alloc (.cells #[.int .i64 nn, .int .i64 nd] 29)).heap.size = Vm.heap.size + 1 := by simp
        replace HB := Lib.hid (HB.out.trans (hbq.mono HB.out.size))
        have kq := Lib.hid (Lok.new Vm 29 #[.int .i64 nn, .int .i64 nd])
        clear hbq
        generalize Vm.alloc (.cells #[.int .i64 nn, .int .i64 nd] 29) = Vq at *
        rw [zm] at kq
        clear zm zq
        generalize w2.heap.size = gm at *
        have lt1 := kr.out.lt
        have o2 := kr.out
        have o3 := ks.out
        have l1 := km.out
        have l2 := kq.out
        have hbound : w.heap.size + 2 ≤ Vq.heap.size := by omega
        refine wp_region_rel (by kernel_rfl) [33, 34, 6] ?Fr1 ?hFr1
          (fun L u W => Below (w.heap.size + 2) Vq W ∧ (L 0 = true → u 33 = .agg #[.int .i64 nu, .int .i64 nv]) ∧ (L 1 = true → u 34 = .agg #[.int .i64 nn, .int .i64 nd]) ∧ (L 4 = true → u 6 = .int .i64 0) ∧ (L 2 = false → Lok W (w.heap.size + 2) 23 #[.int .i64 0, .int .i64 0]) ∧ (L 2 = true → Lok W (w.heap.size + 2) 23 #[.int .i64 nu, .int .i64 nv]) ∧ (L 3 = false → Lok W (w.heap.size + 3) 29 #[.int .i64 0, .int .i64 0]) ∧ (L 3 = true → Lok W (w.heap.size + 3) 29 #[.int .i64 nn, .int .i64 nd]) ∧ Lok W (gm) 23 #[.int .i64 nu, .int .i64 nv] ∧ Lok W (gm + 1) 29 #[.int .i64 nn, .int .i64 nd]) (by kernel_rfl) (by kernel_rfl) 5 rfl ?h0r1 ?stepr1 ?finr1
        case hFr1 => intro u; simp only [putAll, Act.put, List.setIfInBounds_toArray, List.set]; exact rfl
        case h0r1 => intro L u hL; exact ⟨(Below.refl _ _).drew, (fun h => by simp [hL] at h), (fun h => by simp [hL] at h), (fun h => by simp [hL] at h), (fun _ => by assumption), (fun h => by simp [hL] at h), (fun _ => by assumption), (fun h => by simp [hL] at h), (by first | assumption | (apply Lok.drew; assumption)), (by first | assumption | (apply Lok.drew; assumption))⟩
        case stepr1 =>
          refine ops_all (ops_cons ?s0r1 (ops_cons ?s1r1 (ops_cons ?s2r1 (ops_cons ?s3r1 (ops_cons ?s4r1 (ops_nil))))))
          case s0r1 =>
            rintro L u W ⟨hB, c0, c1, c4, o2, wn2, o3, wn3, lk1, lk2⟩ hf hd K hK
            dsimp only at hK
            have t0 := lk1.cell (i := 0) rfl
            have t1 := lk1.cell (i := 1) rfl
            clear hd
            go_simp
            refine hK _ _ ?_ (fun h => by cases h)
            intro s hs
            cases hs
            exact ⟨hB, (fun _ => rfl), c1, c4, o2, wn2, o3, wn3, lk1, lk2⟩
          case s1r1 =>
            rintro L u W ⟨hB, c0, c1, c4, o2, wn2, o3, wn3, lk1, lk2⟩ hf hd K hK
            dsimp only at hK
            have t0 := lk2.cell (i := 0) rfl
            have t1 := lk2.cell (i := 1) rfl
            clear hd
            go_simp
            refine hK _ _ ?_ (fun h => by cases h)
            intro s hs
            cases hs
            exact ⟨hB, c0, (fun _ => rfl), c4, o2, wn2, o3, wn3, lk1, lk2⟩
          case s2r1 =>
            rintro L u W ⟨hB, c0, c1, c4, o2, wn2, o3, wn3, lk1, lk2⟩ hf hd K hK
            dsimp only at hK
            have hd0 : L 0 = true := (by first | (refine hd ⟨0, .data⟩ ?_ rfl; simp; done) | (refine hd ⟨0, .phase⟩ ?_ rfl; simp; done))
            have k3 := o2 hf
            have e0 := c0 hd0
            rw [e0] at hK
            have t0 := k3.cell (i := 0) rfl
            have f0 := k3.frozen 0
            have t1 := k3.cell (i := 1) rfl
            have f1 := k3.frozen 1
            clear hd
            have hd0' := Lib.hid hd0
            clear hd0
            go_simp
            have hd0 := hd0'.out
            have hlok := (k3.set (i := 0) (v := .int .i64 nu)).set (i := 1) (v := .int .i64 nv)
            refine hK undef _ (fun s h => by cases h) (fun _ => ?_)
            exact ⟨(hB.setCell (by first | exact Nat.le_refl _ | assumption | (show _ ≤ _; omega) | (show ((w.heap.size + 2)) ≤ (w.heap.size + 2); omega)) _).setCell (by first | exact Nat.le_refl _ | assumption | (show _ ≤ _; omega) | (show ((w.heap.size + 2)) ≤ (w.heap.size + 2); omega)) _, (fun _ => rfl), c1, c4, (fun h => by cases h), (fun _ => hlok), (fun h => (((o3 h).far (by first | assumption | omega)).far (by first | assumption | omega))), (fun h => (((wn3 h).far (by first | assumption | omega)).far (by first | assumption | omega))), ((lk1.far (by first | assumption | omega)).far (by first | assumption | omega)), ((lk2.far (by first | assumption | omega)).far (by first | assumption | omega))⟩
          case s3r1 =>
            rintro L u W ⟨hB, c0, c1, c4, o2, wn2, o3, wn3, lk1, lk2⟩ hf hd K hK
            dsimp only at hK
            have hd1 : L 1 = true := (by first | (refine hd ⟨1, .data⟩ ?_ rfl; simp; done) | (refine hd ⟨1, .phase⟩ ?_ rfl; simp; done))
            have k3 := o3 hf
            have e1 := c1 hd1
            rw [e1] at hK
            have t0 := k3.cell (i := 0) rfl
            have f0 := k3.frozen 0
            have t1 := k3.cell (i := 1) rfl
            have f1 := k3.frozen 1
            clear hd
            have hd1' := Lib.hid hd1
            clear hd1
            go_simp
            have hd1 := hd1'.out
            have hlok := (k3.set (i := 0) (v := .int .i64 nn)).set (i := 1) (v := .int .i64 nd)
            refine hK undef _ (fun s h => by cases h) (fun _ => ?_)
            exact ⟨(hB.setCell (by first | exact Nat.le_refl _ | assumption | (show _ ≤ _; omega) | (show ((w.heap.size + 2)) ≤ (w.heap.size + 3); omega)) _).setCell (by first | exact Nat.le_refl _ | assumption | (show _ ≤ _; omega) | (show ((w.heap.size + 2)) ≤ (w.heap.size + 3); omega)) _, c0, (fun _ => rfl), c4, (fun h => (((o2 h).far (by first | assumption | omega)).far (by first | assumption | omega))), (fun h => (((wn2 h).far (by first | assumption | omega)).far (by first | assumption | omega))), (fun h => by cases h), (fun _ => hlok), ((lk1.far (by first | assumption | omega)).far (by first | assumption | omega)), ((lk2.far (by first | assumption | omega)).far (by first | assumption | omega))⟩
          case s4r1 =>
            rintro L u W ⟨hB, c0, c1, c4, o2, wn2, o3, wn3, lk1, lk2⟩ hf hd K hK
            dsimp only at hK
            clear hd
            go_simp
            refine hK _ _ ?_ (fun h => by cases h)
            intro s hs
            cases hs
            exact ⟨hB, c0, c1, (fun _ => rfl), o2, wn2, o3, wn3, lk1, lk2⟩
        case finr1 =>
          rintro L u W hL ⟨hB, c0, c1, c4, o2, wn2, o3, wn3, lk1, lk2⟩
          have e0 := c0 (hL 0 (by decide))
          have e1 := c1 (hL 1 (by decide))
          have e4 := c4 (hL 4 (by decide))
          have hlok2 := wn2 (hL 2 (by decide))
          have hlok3 := wn3 (hL 3 (by decide))
          clear hL c0 c1 c4 o2 wn2 o3 wn3
          try simp only [e0, e1, e4]
          clear e0 e1 e4
          have r0 := hlok2.cell (i := 0) rfl
          have r1 := hlok2.cell (i := 1) rfl
          have s0 := hlok3.cell (i := 0) rfl
          have s1 := hlok3.cell (i := 1) rfl
          go_wp2_with fail
          exact bodyPost_ret (v := .tuple #[.agg #[.int .i64 nu, .int .i64 nv], .agg #[.int .i64 nn, .int .i64 nd], .int .i64 0]) (by simp [results, Try.results10, go_sem, r0, r1, s0, s1]) rfl ⟨rfl, HB.out.trans (hB.mono (by omega))⟩
      · rw [clV_in _ _ hr, clV_in _ _ hr, clV_in _ _ hr, clV_in _ _ hr]
        have iz : (r1 a1 a2 b1 b2 c1 c2 x y + 1 == 0) = false := by rw [beq_eq_false_iff_ne]; omega
        generalize r1 a1 a2 b1 b2 c1 c2 x y + 1 = i at *
        clear hs ha hb hr
        go_enter Try.func10, Try.ntmps10
        go_upto_region 1 with fail
        have hbp := below_new1 w (.cells #[.int .i64 x, .int .i64 y] 23)
        have zp : (w.alloc (.cells #[.int .i64 x, .int .i64 y] 23)).heap.size = w.heap.size + 1 := by simp
        have HB := Lib.hid hbp
        have kp := Lib.hid (Lok.new w 23 #[.int .i64 x, .int .i64 y])
        clear hbp
        generalize w.alloc (.cells #[.int .i64 x, .int .i64 y] 23) = Vp at *
        have hbt := below_new1 Vp (.cells #[.int .i64 a1, .int .i64 a2, .int .i64 b1, .int .i64 b2, .int .i64 c1, .int .i64 c2] 24)
        replace kp := Lib.hid (kp.out.keep hbt)
        have zt : (Vp.alloc (.cells #[.int .i64 a1, .int .i64 a2, .int .i64 b1, .int .i64 b2, .int .i64 c1, .int .i64 c2] 24)).heap.size = Vp.heap.size + 1 := by simp
        replace HB := Lib.hid (HB.out.trans (hbt.mono HB.out.size))
        have kt := Lib.hid (Lok.new Vp 24 #[.int .i64 a1, .int .i64 a2, .int .i64 b1, .int .i64 b2, .int .i64 c1, .int .i64 c2])
        clear hbt
        generalize Vp.alloc (.cells #[.int .i64 a1, .int .i64 a2, .int .i64 b1, .int .i64 b2, .int .i64 c1, .int .i64 c2] 24) = Vt at *
        rw [zp] at kt zt
        have hbr := below_new1 Vt (.cells #[.int .i64 0, .int .i64 0] 23)
        replace kp := Lib.hid (kp.out.keep hbr)
        replace kt := Lib.hid (kt.out.keep hbr)
        have zr : (Vt.alloc (.cells #[.int .i64 0, .int .i64 0] 23)).heap.size = Vt.heap.size + 1 := by simp
        replace HB := Lib.hid (HB.out.trans (hbr.mono HB.out.size))
        have kr := Lib.hid (Lok.new Vt 23 #[.int .i64 0, .int .i64 0])
        clear hbr
        generalize Vt.alloc (.cells #[.int .i64 0, .int .i64 0] 23) = Vr at *
        rw [zt] at kr zr
        have hbs := below_new1 Vr (.cells #[.int .i64 0, .int .i64 0] 29)
        replace kp := Lib.hid (kp.out.keep hbs)
        replace kt := Lib.hid (kt.out.keep hbs)
        replace kr := Lib.hid (kr.out.keep hbs)
        have zs : (Vr.alloc (.cells #[.int .i64 0, .int .i64 0] 29)).heap.size = Vr.heap.size + 1 := by simp
        replace HB := Lib.hid (HB.out.trans (hbs.mono HB.out.size))
        have ks := Lib.hid (Lok.new Vr 29 #[.int .i64 0, .int .i64 0])
        clear hbs
        generalize Vr.alloc (.cells #[.int .i64 0, .int .i64 0] 29) = Vs at *
        rw [zr] at ks
        clear zp zt zr zs
        have p0 := kp.out.cell (i := 0) rfl
        have p1 := kp.out.cell (i := 1) rfl
        have t0 := kt.out.cell (i := 0) rfl
        have t1 := kt.out.cell (i := 1) rfl
        have t2 := kt.out.cell (i := 2) rfl
        have t3 := kt.out.cell (i := 3) rfl
        have t4 := kt.out.cell (i := 4) rfl
        have t5 := kt.out.cell (i := 5) rfl
        go_wp2_with fail
        clear p0 p1 t0 t1 t2 t3 t4 t5
        (((with_reducible refine (IN.out _).mono ?_); rintro e w1 ⟨rfl, hb1⟩); replace HB := Lib.hid (HB.out.trans (hb1.mono HB.out.size)); replace kp := Lib.hid (kp.out.keep hb1); replace kt := Lib.hid (kt.out.keep hb1); replace kr := Lib.hid (kr.out.keep hb1); replace ks := Lib.hid (ks.out.keep hb1); clear hb1)
        have p0 := kp.out.cell (i := 0) rfl
        have p1 := kp.out.cell (i := 1) rfl
        have r0 := kr.out.cell (i := 0) rfl
        have r1 := kr.out.cell (i := 1) rfl
        have s0 := ks.out.cell (i := 0) rfl
        have s1 := ks.out.cell (i := 1) rfl
        have fr0 := kr.out.frozen 0
        have fr1 := kr.out.frozen 1
        have fs0 := ks.out.frozen 0
        have fs1 := ks.out.frozen 1
        go_wp2_with fail
        exact bodyPost_ret (v := .tuple #[.agg #[.int .i64 x, .int .i64 y], .agg #[.int .i64 0, .int .i64 1], .int .i64 0]) (by simp [results, Try.results10, go_sem, r0, r1, s0, s1]) rfl ⟨rfl, (((HB.out.setCell (by simp <;> omega) _).setCell (by simp <;> omega) _).setCell (by simp <;> omega) _).setCell (by simp <;> omega) _⟩
end Go.Proofs.Ytllamakemgogaaa
