/-
  The law SlabHit, walked. (gen/SbJ.py)
-/
import Derived.Test.YtfghjfgdjlkooaaSbH
import Derived.Test.YtfghjfgdjlkooaaSbV
import Derived.Test.YtfghjfgdjlkooaaHtC
namespace Go.Proofs.Ytfghjfgdjlkooaa
open Go.RowKit

theorem tri_right {p1 p2 p3 q1 q2 q3 r1 r2 r3 : Int} (hp : s3 p1 p2 p3 = true) (hq : s3 q1 q2 q3 = true) (hr : s3 r1 r2 r3 = true) : bxR (min (min p1 q1) r1) (min (min p2 q2) r2) (min (min p3 q3) r3) (max (max p1 q1) r1) (max (max p2 q2) r2) (max (max p3 q3) r3) = true := by
  rw [bxR_iff, s3_iff, s3_iff]
  rw [s3_iff] at hp hq hr
  unfold SM at *
  omega
set_option maxRecDepth 100000 in
set_option maxHeartbeats 8000000 in
theorem law_hit (a1 a2 a3 c1 c2 c3 p1 p2 p3 q1 q2 q3 r1 r2 r3 : Int) (w : World) :
    Calls Try.prog 7 #[.agg #[.int .i64 a1, .int .i64 a2, .int .i64 a3], .agg #[.int .i64 c1, .int .i64 c2, .int .i64 c3], .agg #[.int .i64 p1, .int .i64 p2, .int .i64 p3, .int .i64 q1, .int .i64 q2, .int .i64 q3, .int .i64 r1, .int .i64 r2, .int .i64 r3]] w fun e' w' => e' = .returned (.bool true) ∧ Below w.heap.size w w' := by
  have HB := Lib.hid (Below.refl w.heap.size w)
  have BD := Lib.hid (fun W => boxed_any W)
  cases ht : (s3 a1 a2 a3 && s3 c1 c2 c3 && s3 p1 p2 p3 && s3 q1 q2 q3 && s3 r1 r2 r3) with
  | false =>
    have H := Lib.hid (fun W => hit_any a1 a2 a3 c1 c2 c3 p1 p2 p3 q1 q2 q3 r1 r2 r3 false ht W)
    rw [hV_no, show rE false = 5 from rfl] at H
    have O := Lib.hid (fun g T W h => slof_3 p1 p2 p3 q1 q2 q3 r1 r2 r3 _ rfl g T W h)
    generalize (s3 p1 p2 p3 && s3 q1 q2 q3 && s3 r1 r2 r3) = t3 at *
    generalize rE t3 = e3 at *
    generalize vF t3 (min (min p1 q1) r1) = u0 at *
    generalize vF t3 (min (min p2 q2) r2) = u1 at *
    generalize vF t3 (min (min p3 q3) r3) = u2 at *
    generalize vF t3 (max (max p1 q1) r1) = v0 at *
    generalize vF t3 (max (max p2 q2) r2) = v1 at *
    generalize vF t3 (max (max p3 q3) r3) = v2 at *
    have M := Lib.hid (fun W => meets_any a1 a2 a3 c1 c2 c3 u0 u1 u2 v0 v1 v2 _ rfl W)
    generalize ((s3 a1 a2 a3 && s3 c1 c2 c3) && (bxR u0 u1 u2 v0 v1 v2 && meP a1 a2 a3 c1 c2 c3 u0 u1 u2 v0 v1 v2)) = m at *
    generalize meE (s3 a1 a2 a3 && s3 c1 c2 c3) (bxR u0 u1 u2 v0 v1 v2) = em at *
    clear ht
    go_enter Try.func7, Try.ntmps7
    go_upto_region 1 with fail
    have hbx := below_new1 w (.cells #[.int .i64 a1, .int .i64 a2, .int .i64 a3] 23)
    have zx : (w.alloc (.cells #[.int .i64 a1, .int .i64 a2, .int .i64 a3] 23)).heap.size = w.heap.size + 1 := by simp
    have HB := Lib.hid hbx
    have kx := Lib.hid (Lok.new w 23 #[.int .i64 a1, .int .i64 a2, .int .i64 a3])
    clear hbx
    generalize w.alloc (.cells #[.int .i64 a1, .int .i64 a2, .int .i64 a3] 23) = Vx at *
    have hby := below_new1 Vx (.cells #[.int .i64 c1, .int .i64 c2, .int .i64 c3] 23)
    replace kx := Lib.hid (kx.out.keep hby)
    have zy : (Vx.alloc (.cells #[.int .i64 c1, .int .i64 c2, .int .i64 c3] 23)).heap.size = Vx.heap.size + 1 := by simp
    replace HB := Lib.hid (HB.out.trans (hby.mono HB.out.size))
    have ky := Lib.hid (Lok.new Vx 23 #[.int .i64 c1, .int .i64 c2, .int .i64 c3])
    clear hby
    generalize Vx.alloc (.cells #[.int .i64 c1, .int .i64 c2, .int .i64 c3] 23) = Vy at *
    rw [zx] at ky zy
    have hbt := below_new1 Vy (.cells #[.int .i64 p1, .int .i64 p2, .int .i64 p3, .int .i64 q1, .int .i64 q2, .int .i64 q3, .int .i64 r1, .int .i64 r2, .int .i64 r3] 43)
    replace kx := Lib.hid (kx.out.keep hbt)
    replace ky := Lib.hid (ky.out.keep hbt)
    have zt : (Vy.alloc (.cells #[.int .i64 p1, .int .i64 p2, .int .i64 p3, .int .i64 q1, .int .i64 q2, .int .i64 q3, .int .i64 r1, .int .i64 r2, .int .i64 r3] 43)).heap.size = Vy.heap.size + 1 := by simp
    replace HB := Lib.hid (HB.out.trans (hbt.mono HB.out.size))
    have kt := Lib.hid (Lok.new Vy 43 #[.int .i64 p1, .int .i64 p2, .int .i64 p3, .int .i64 q1, .int .i64 q2, .int .i64 q3, .int .i64 r1, .int .i64 r2, .int .i64 r3])
    clear hbt
    generalize Vy.alloc (.cells #[.int .i64 p1, .int .i64 p2, .int .i64 p3, .int .i64 q1, .int .i64 q2, .int .i64 q3, .int .i64 r1, .int .i64 r2, .int .i64 r3] 43) = Vt at *
    rw [zy] at kt
    clear zx zy zt
    have x0 := kx.out.cell (i := 0) rfl
    have x1 := kx.out.cell (i := 1) rfl
    have x2 := kx.out.cell (i := 2) rfl
    have y0 := ky.out.cell (i := 0) rfl
    have y1 := ky.out.cell (i := 1) rfl
    have y2 := ky.out.cell (i := 2) rfl
    have t0 := kt.out.cell (i := 0) rfl
    have t1 := kt.out.cell (i := 1) rfl
    have t2 := kt.out.cell (i := 2) rfl
    have t3 := kt.out.cell (i := 3) rfl
    have t4 := kt.out.cell (i := 4) rfl
    have t5 := kt.out.cell (i := 5) rfl
    have t6 := kt.out.cell (i := 6) rfl
    have t7 := kt.out.cell (i := 7) rfl
    have t8 := kt.out.cell (i := 8) rfl
    go_wp2_with fail
    clear x0 x1 x2 y0 y1 y2 t0 t1 t2 t3 t4 t5 t6 t7 t8
    (((with_reducible refine (H.out _).mono ?_); rintro e w1 ⟨rfl, hb1⟩); replace HB := Lib.hid (HB.out.trans (hb1.mono HB.out.size)); replace kx := Lib.hid (kx.out.keep hb1); replace ky := Lib.hid (ky.out.keep hb1); replace kt := Lib.hid (kt.out.keep hb1); clear hb1)
    clear H
    have t0 := kt.out.cell (i := 0) rfl
    have t1 := kt.out.cell (i := 1) rfl
    have t2 := kt.out.cell (i := 2) rfl
    have t3 := kt.out.cell (i := 3) rfl
    have t4 := kt.out.cell (i := 4) rfl
    have t5 := kt.out.cell (i := 5) rfl
    have t6 := kt.out.cell (i := 6) rfl
    have t7 := kt.out.cell (i := 7) rfl
    have t8 := kt.out.cell (i := 8) rfl
    go_wp2_with fail
    clear t0 t1 t2 t3 t4 t5 t6 t7 t8
    have hbr := below_new1 w1 (.cells #[.int .i64 p1, .int .i64 p2, .int .i64 p3, .int .i64 q1, .int .i64 q2, .int .i64 q3, .int .i64 r1, .int .i64 r2, .int .i64 r3] 23)
    replace kx := Lib.hid (kx.out.keep hbr)
    replace ky := Lib.hid (ky.out.keep hbr)
    replace kt := Lib.hid (kt.out.keep hbr)
    have zr : (w1.alloc (.cells #[.int .i64 p1, .int .i64 p2, .int .i64 p3, .int .i64 q1, .int .i64 q2, .int .i64 q3, .int .i64 r1, .int .i64 r2, .int .i64 r3] 23)).heap.size = w1.heap.size + 1 := by simp
    replace HB := Lib.hid (HB.out.trans (hbr.mono HB.out.size))
    have kr := Lib.hid (Lok.new w1 23 #[.int .i64 p1, .int .i64 p2, .int .i64 p3, .int .i64 q1, .int .i64 q2, .int .i64 q3, .int .i64 r1, .int .i64 r2, .int .i64 r3])
    clear hbr
    generalize w1.alloc (.cells #[.int .i64 p1, .int .i64 p2, .int .i64 p3, .int .i64 q1, .int .i64 q2, .int .i64 q3, .int .i64 r1, .int .i64 r2, .int .i64 r3] 23) = Vr at *
    clear zr
    generalize w1.heap.size = gr at *
    (((with_reducible refine (O.out _ _ _ kr.out).mono ?_); rintro e w2 ⟨rfl, hb2⟩); replace HB := Lib.hid (HB.out.trans (hb2.mono HB.out.size)); replace kx := Lib.hid (kx.out.keep hb2); replace ky := Lib.hid (ky.out.keep hb2); clear hb2)
    clear O kr kt
    go_upto_region 3 with fail
    have hbb := below_new1 w2 (.cells #[.int .i64 u0, .int .i64 u1, .int .i64 u2, .int .i64 v0, .int .i64 v1, .int .i64 v2] 25)
    replace kx := Lib.hid (kx.out.keep hbb)
    replace ky := Lib.hid (ky.out.keep hbb)
    have zb : (w2.alloc (.cells #[.int .i64 u0, .int .i64 u1, .int .i64 u2, .int .i64 v0, .int .i64 v1, .int .i64 v2] 25)).heap.size = w2.heap.size + 1 := by simp
    replace HB := Lib.hid (HB.out.trans (hbb.mono HB.out.size))
    have kb := Lib.hid (Lok.new w2 25 #[.int .i64 u0, .int .i64 u1, .int .i64 u2, .int .i64 v0, .int .i64 v1, .int .i64 v2])
    clear hbb
    generalize w2.alloc (.cells #[.int .i64 u0, .int .i64 u1, .int .i64 u2, .int .i64 v0, .int .i64 v1, .int .i64 v2] 25) = Vb at *
    clear zb
    have x0 := kx.out.cell (i := 0) rfl
    have x1 := kx.out.cell (i := 1) rfl
    have x2 := kx.out.cell (i := 2) rfl
    have y0 := ky.out.cell (i := 0) rfl
    have y1 := ky.out.cell (i := 1) rfl
    have y2 := ky.out.cell (i := 2) rfl
    have b0 := kb.out.cell (i := 0) rfl
    have b1 := kb.out.cell (i := 1) rfl
    have b2 := kb.out.cell (i := 2) rfl
    have b3 := kb.out.cell (i := 3) rfl
    have b4 := kb.out.cell (i := 4) rfl
    have b5 := kb.out.cell (i := 5) rfl
    go_wp2_with fail
    clear x0 x1 x2 y0 y1 y2 b0 b1 b2 b3 b4 b5
    (((with_reducible refine (M.out _).mono ?_); rintro e w3 ⟨rfl, hb3⟩); replace HB := Lib.hid (HB.out.trans (hb3.mono HB.out.size)); replace kx := Lib.hid (kx.out.keep hb3); replace ky := Lib.hid (ky.out.keep hb3); replace kb := Lib.hid (kb.out.keep hb3); clear hb3)
    clear M kx ky kb
    go_wp2_with fail
    (((with_reducible refine (BD.out _).mono ?_); rintro e w4 ⟨rfl, hb4⟩); replace HB := Lib.hid (HB.out.trans (hb4.mono HB.out.size)); clear hb4)
    clear BD
    go_wp2
    go_ret
    exact ⟨rfl, HB.out⟩
  | true =>
    have hs := ht
    rw [Bool.and_eq_true, Bool.and_eq_true, Bool.and_eq_true, Bool.and_eq_true] at hs
    obtain ⟨⟨⟨⟨ha, hc⟩, hp⟩, hq⟩, hr⟩ := hs
    have H := Lib.hid (fun W => hit_any a1 a2 a3 c1 c2 c3 p1 p2 p3 q1 q2 q3 r1 r2 r3 true ht W)
    rw [hV_yes, show rE true = 0 from rfl] at H
    have O := Lib.hid (fun g T W h => slof_3 p1 p2 p3 q1 q2 q3 r1 r2 r3 true (by rw [hp, hq, hr]; rfl) g T W h)
    simp only [vF_yes, show rE true = 0 from rfl] at O
    have hbr := tri_right hp hq hr
    have FA := Lib.hid (fun h => meP_hit (a1 := a1) (a2 := a2) (a3 := a3) (b1 := c1) (b2 := c2) (b3 := c3) (p1 := p1) (p2 := p2) (p3 := p3) (q1 := q1) (q2 := q2) (q3 := q3) (r1 := r1) (r2 := r2) (r3 := r3) h)
    generalize htB a1 a2 a3 c1 c2 c3 p1 p2 p3 q1 q2 q3 r1 r2 r3 = x at *
    generalize min (min p1 q1) r1 = u0 at *
    generalize min (min p2 q2) r2 = u1 at *
    generalize min (min p3 q3) r3 = u2 at *
    generalize max (max p1 q1) r1 = v0 at *
    generalize max (max p2 q2) r2 = v1 at *
    generalize max (max p3 q3) r3 = v2 at *
    have M := Lib.hid (fun W => meets_any a1 a2 a3 c1 c2 c3 u0 u1 u2 v0 v1 v2 true (by rw [ha, hc]; rfl) W)
    rw [hbr, Bool.true_and, Bool.true_and, show meE true true = 0 from rfl] at M
    generalize meP a1 a2 a3 c1 c2 c3 u0 u1 u2 v0 v1 v2 = m at *
    clear ht ha hc hp hq hr hbr
    cases x with
    | false =>
      clear FA
      go_enter Try.func7, Try.ntmps7
      go_upto_region 1 with fail
      have hbx := below_new1 w (.cells #[.int .i64 a1, .int .i64 a2, .int .i64 a3] 23)
      have zx : (w.alloc (.cells #[.int .i64 a1, .int .i64 a2, .int .i64 a3] 23)).heap.size = w.heap.size + 1 := by simp
      have HB := Lib.hid hbx
      have kx := Lib.hid (Lok.new w 23 #[.int .i64 a1, .int .i64 a2, .int .i64 a3])
      clear hbx
      generalize w.alloc (.cells #[.int .i64 a1, .int .i64 a2, .int .i64 a3] 23) = Vx at *
      have hby := below_new1 Vx (.cells #[.int .i64 c1, .int .i64 c2, .int .i64 c3] 23)
      replace kx := Lib.hid (kx.out.keep hby)
      have zy : (Vx.alloc (.cells #[.int .i64 c1, .int .i64 c2, .int .i64 c3] 23)).heap.size = Vx.heap.size + 1 := by simp
      replace HB := Lib.hid (HB.out.trans (hby.mono HB.out.size))
      have ky := Lib.hid (Lok.new Vx 23 #[.int .i64 c1, .int .i64 c2, .int .i64 c3])
      clear hby
      generalize Vx.alloc (.cells #[.int .i64 c1, .int .i64 c2, .int .i64 c3] 23) = Vy at *
      rw [zx] at ky zy
      have hbt := below_new1 Vy (.cells #[.int .i64 p1, .int .i64 p2, .int .i64 p3, .int .i64 q1, .int .i64 q2, .int .i64 q3, .int .i64 r1, .int .i64 r2, .int .i64 r3] 43)
      replace kx := Lib.hid (kx.out.keep hbt)
      replace ky := Lib.hid (ky.out.keep hbt)
      have zt : (Vy.alloc (.cells #[.int .i64 p1, .int .i64 p2, .int .i64 p3, .int .i64 q1, .int .i64 q2, .int .i64 q3, .int .i64 r1, .int .i64 r2, .int .i64 r3] 43)).heap.size = Vy.heap.size + 1 := by simp
      replace HB := Lib.hid (HB.out.trans (hbt.mono HB.out.size))
      have kt := Lib.hid (Lok.new Vy 43 #[.int .i64 p1, .int .i64 p2, .int .i64 p3, .int .i64 q1, .int .i64 q2, .int .i64 q3, .int .i64 r1, .int .i64 r2, .int .i64 r3])
      clear hbt
      generalize Vy.alloc (.cells #[.int .i64 p1, .int .i64 p2, .int .i64 p3, .int .i64 q1, .int .i64 q2, .int .i64 q3, .int .i64 r1, .int .i64 r2, .int .i64 r3] 43) = Vt at *
      rw [zy] at kt
      clear zx zy zt
      have x0 := kx.out.cell (i := 0) rfl
      have x1 := kx.out.cell (i := 1) rfl
      have x2 := kx.out.cell (i := 2) rfl
      have y0 := ky.out.cell (i := 0) rfl
      have y1 := ky.out.cell (i := 1) rfl
      have y2 := ky.out.cell (i := 2) rfl
      have t0 := kt.out.cell (i := 0) rfl
      have t1 := kt.out.cell (i := 1) rfl
      have t2 := kt.out.cell (i := 2) rfl
      have t3 := kt.out.cell (i := 3) rfl
      have t4 := kt.out.cell (i := 4) rfl
      have t5 := kt.out.cell (i := 5) rfl
      have t6 := kt.out.cell (i := 6) rfl
      have t7 := kt.out.cell (i := 7) rfl
      have t8 := kt.out.cell (i := 8) rfl
      go_wp2_with fail
      clear x0 x1 x2 y0 y1 y2 t0 t1 t2 t3 t4 t5 t6 t7 t8
      (((with_reducible refine (H.out _).mono ?_); rintro e w1 ⟨rfl, hb1⟩); replace HB := Lib.hid (HB.out.trans (hb1.mono HB.out.size)); replace kx := Lib.hid (kx.out.keep hb1); replace ky := Lib.hid (ky.out.keep hb1); replace kt := Lib.hid (kt.out.keep hb1); clear hb1)
      clear H
      have t0 := kt.out.cell (i := 0) rfl
      have t1 := kt.out.cell (i := 1) rfl
      have t2 := kt.out.cell (i := 2) rfl
      have t3 := kt.out.cell (i := 3) rfl
      have t4 := kt.out.cell (i := 4) rfl
      have t5 := kt.out.cell (i := 5) rfl
      have t6 := kt.out.cell (i := 6) rfl
      have t7 := kt.out.cell (i := 7) rfl
      have t8 := kt.out.cell (i := 8) rfl
      go_wp2_with fail
      clear t0 t1 t2 t3 t4 t5 t6 t7 t8
      have hbr := below_new1 w1 (.cells #[.int .i64 p1, .int .i64 p2, .int .i64 p3, .int .i64 q1, .int .i64 q2, .int .i64 q3, .int .i64 r1, .int .i64 r2, .int .i64 r3] 23)
      replace kx := Lib.hid (kx.out.keep hbr)
      replace ky := Lib.hid (ky.out.keep hbr)
      replace kt := Lib.hid (kt.out.keep hbr)
      have zr : (w1.alloc (.cells #[.int .i64 p1, .int .i64 p2, .int .i64 p3, .int .i64 q1, .int .i64 q2, .int .i64 q3, .int .i64 r1, .int .i64 r2, .int .i64 r3] 23)).heap.size = w1.heap.size + 1 := by simp
      replace HB := Lib.hid (HB.out.trans (hbr.mono HB.out.size))
      have kr := Lib.hid (Lok.new w1 23 #[.int .i64 p1, .int .i64 p2, .int .i64 p3, .int .i64 q1, .int .i64 q2, .int .i64 q3, .int .i64 r1, .int .i64 r2, .int .i64 r3])
      clear hbr
      generalize w1.alloc (.cells #[.int .i64 p1, .int .i64 p2, .int .i64 p3, .int .i64 q1, .int .i64 q2, .int .i64 q3, .int .i64 r1, .int .i64 r2, .int .i64 r3] 23) = Vr at *
      clear zr
      generalize w1.heap.size = gr at *
      (((with_reducible refine (O.out _ _ _ kr.out).mono ?_); rintro e w2 ⟨rfl, hb2⟩); replace HB := Lib.hid (HB.out.trans (hb2.mono HB.out.size)); replace kx := Lib.hid (kx.out.keep hb2); replace ky := Lib.hid (ky.out.keep hb2); clear hb2)
      clear O kr kt
      go_upto_region 3 with fail
      have hbb := below_new1 w2 (.cells #[.int .i64 u0, .int .i64 u1, .int .i64 u2, .int .i64 v0, .int .i64 v1, .int .i64 v2] 25)
      replace kx := Lib.hid (kx.out.keep hbb)
      replace ky := Lib.hid (ky.out.keep hbb)
      have zb : (w2.alloc (.cells #[.int .i64 u0, .int .i64 u1, .int .i64 u2, .int .i64 v0, .int .i64 v1, .int .i64 v2] 25)).heap.size = w2.heap.size + 1 := by simp
      replace HB := Lib.hid (HB.out.trans (hbb.mono HB.out.size))
      have kb := Lib.hid (Lok.new w2 25 #[.int .i64 u0, .int .i64 u1, .int .i64 u2, .int .i64 v0, .int .i64 v1, .int .i64 v2])
      clear hbb
      generalize w2.alloc (.cells #[.int .i64 u0, .int .i64 u1, .int .i64 u2, .int .i64 v0, .int .i64 v1, .int .i64 v2] 25) = Vb at *
      clear zb
      have x0 := kx.out.cell (i := 0) rfl
      have x1 := kx.out.cell (i := 1) rfl
      have x2 := kx.out.cell (i := 2) rfl
      have y0 := ky.out.cell (i := 0) rfl
      have y1 := ky.out.cell (i := 1) rfl
      have y2 := ky.out.cell (i := 2) rfl
      have b0 := kb.out.cell (i := 0) rfl
      have b1 := kb.out.cell (i := 1) rfl
      have b2 := kb.out.cell (i := 2) rfl
      have b3 := kb.out.cell (i := 3) rfl
      have b4 := kb.out.cell (i := 4) rfl
      have b5 := kb.out.cell (i := 5) rfl
      go_wp2_with fail
      clear x0 x1 x2 y0 y1 y2 b0 b1 b2 b3 b4 b5
      (((with_reducible refine (M.out _).mono ?_); rintro e w3 ⟨rfl, hb3⟩); replace HB := Lib.hid (HB.out.trans (hb3.mono HB.out.size)); replace kx := Lib.hid (kx.out.keep hb3); replace ky := Lib.hid (ky.out.keep hb3); replace kb := Lib.hid (kb.out.keep hb3); clear hb3)
      clear M kx ky kb
      go_wp2_with fail
      (((with_reducible refine (BD.out _).mono ?_); rintro e w4 ⟨rfl, hb4⟩); replace HB := Lib.hid (HB.out.trans (hb4.mono HB.out.size)); clear hb4)
      clear BD
      go_wp2
      go_ret
      exact ⟨rfl, HB.out⟩
    | true =>
      have e := FA.out rfl
      clear FA
      subst e
      go_enter Try.func7, Try.ntmps7
      go_upto_region 1 with fail
      have hbx := below_new1 w (.cells #[.int .i64 a1, .int .i64 a2, .int .i64 a3] 23)
      have zx : (w.alloc (.cells #[.int .i64 a1, .int .i64 a2, .int .i64 a3] 23)).heap.size = w.heap.size + 1 := by simp
      have HB := Lib.hid hbx
      have kx := Lib.hid (Lok.new w 23 #[.int .i64 a1, .int .i64 a2, .int .i64 a3])
      clear hbx
      generalize w.alloc (.cells #[.int .i64 a1, .int .i64 a2, .int .i64 a3] 23) = Vx at *
      have hby := below_new1 Vx (.cells #[.int .i64 c1, .int .i64 c2, .int .i64 c3] 23)
      replace kx := Lib.hid (kx.out.keep hby)
      have zy : (Vx.alloc (.cells #[.int .i64 c1, .int .i64 c2, .int .i64 c3] 23)).heap.size = Vx.heap.size + 1 := by simp
      replace HB := Lib.hid (HB.out.trans (hby.mono HB.out.size))
      have ky := Lib.hid (Lok.new Vx 23 #[.int .i64 c1, .int .i64 c2, .int .i64 c3])
      clear hby
      generalize Vx.alloc (.cells #[.int .i64 c1, .int .i64 c2, .int .i64 c3] 23) = Vy at *
      rw [zx] at ky zy
      have hbt := below_new1 Vy (.cells #[.int .i64 p1, .int .i64 p2, .int .i64 p3, .int .i64 q1, .int .i64 q2, .int .i64 q3, .int .i64 r1, .int .i64 r2, .int .i64 r3] 43)
      replace kx := Lib.hid (kx.out.keep hbt)
      replace ky := Lib.hid (ky.out.keep hbt)
      have zt : (Vy.alloc (.cells #[.int .i64 p1, .int .i64 p2, .int .i64 p3, .int .i64 q1, .int .i64 q2, .int .i64 q3, .int .i64 r1, .int .i64 r2, .int .i64 r3] 43)).heap.size = Vy.heap.size + 1 := by simp
      replace HB := Lib.hid (HB.out.trans (hbt.mono HB.out.size))
      have kt := Lib.hid (Lok.new Vy 43 #[.int .i64 p1, .int .i64 p2, .int .i64 p3, .int .i64 q1, .int .i64 q2, .int .i64 q3, .int .i64 r1, .int .i64 r2, .int .i64 r3])
      clear hbt
      generalize Vy.alloc (.cells #[.int .i64 p1, .int .i64 p2, .int .i64 p3, .int .i64 q1, .int .i64 q2, .int .i64 q3, .int .i64 r1, .int .i64 r2, .int .i64 r3] 43) = Vt at *
      rw [zy] at kt
      clear zx zy zt
      have x0 := kx.out.cell (i := 0) rfl
      have x1 := kx.out.cell (i := 1) rfl
      have x2 := kx.out.cell (i := 2) rfl
      have y0 := ky.out.cell (i := 0) rfl
      have y1 := ky.out.cell (i := 1) rfl
      have y2 := ky.out.cell (i := 2) rfl
      have t0 := kt.out.cell (i := 0) rfl
      have t1 := kt.out.cell (i := 1) rfl
      have t2 := kt.out.cell (i := 2) rfl
      have t3 := kt.out.cell (i := 3) rfl
      have t4 := kt.out.cell (i := 4) rfl
      have t5 := kt.out.cell (i := 5) rfl
      have t6 := kt.out.cell (i := 6) rfl
      have t7 := kt.out.cell (i := 7) rfl
      have t8 := kt.out.cell (i := 8) rfl
      go_wp2_with fail
      clear x0 x1 x2 y0 y1 y2 t0 t1 t2 t3 t4 t5 t6 t7 t8
      (((with_reducible refine (H.out _).mono ?_); rintro e w1 ⟨rfl, hb1⟩); replace HB := Lib.hid (HB.out.trans (hb1.mono HB.out.size)); replace kx := Lib.hid (kx.out.keep hb1); replace ky := Lib.hid (ky.out.keep hb1); replace kt := Lib.hid (kt.out.keep hb1); clear hb1)
      clear H
      have t0 := kt.out.cell (i := 0) rfl
      have t1 := kt.out.cell (i := 1) rfl
      have t2 := kt.out.cell (i := 2) rfl
      have t3 := kt.out.cell (i := 3) rfl
      have t4 := kt.out.cell (i := 4) rfl
      have t5 := kt.out.cell (i := 5) rfl
      have t6 := kt.out.cell (i := 6) rfl
      have t7 := kt.out.cell (i := 7) rfl
      have t8 := kt.out.cell (i := 8) rfl
      go_wp2_with fail
      clear t0 t1 t2 t3 t4 t5 t6 t7 t8
      have hbr := below_new1 w1 (.cells #[.int .i64 p1, .int .i64 p2, .int .i64 p3, .int .i64 q1, .int .i64 q2, .int .i64 q3, .int .i64 r1, .int .i64 r2, .int .i64 r3] 23)
      replace kx := Lib.hid (kx.out.keep hbr)
      replace ky := Lib.hid (ky.out.keep hbr)
      replace kt := Lib.hid (kt.out.keep hbr)
      have zr : (w1.alloc (.cells #[.int .i64 p1, .int .i64 p2, .int .i64 p3, .int .i64 q1, .int .i64 q2, .int .i64 q3, .int .i64 r1, .int .i64 r2, .int .i64 r3] 23)).heap.size = w1.heap.size + 1 := by simp
      replace HB := Lib.hid (HB.out.trans (hbr.mono HB.out.size))
      have kr := Lib.hid (Lok.new w1 23 #[.int .i64 p1, .int .i64 p2, .int .i64 p3, .int .i64 q1, .int .i64 q2, .int .i64 q3, .int .i64 r1, .int .i64 r2, .int .i64 r3])
      clear hbr
      generalize w1.alloc (.cells #[.int .i64 p1, .int .i64 p2, .int .i64 p3, .int .i64 q1, .int .i64 q2, .int .i64 q3, .int .i64 r1, .int .i64 r2, .int .i64 r3] 23) = Vr at *
      clear zr
      generalize w1.heap.size = gr at *
      (((with_reducible refine (O.out _ _ _ kr.out).mono ?_); rintro e w2 ⟨rfl, hb2⟩); replace HB := Lib.hid (HB.out.trans (hb2.mono HB.out.size)); replace kx := Lib.hid (kx.out.keep hb2); replace ky := Lib.hid (ky.out.keep hb2); clear hb2)
      clear O kr kt
      go_upto_region 3 with fail
      have hbb := below_new1 w2 (.cells #[.int .i64 u0, .int .i64 u1, .int .i64 u2, .int .i64 v0, .int .i64 v1, .int .i64 v2] 25)
      replace kx := Lib.hid (kx.out.keep hbb)
      replace ky := Lib.hid (ky.out.keep hbb)
      have zb : (w2.alloc (.cells #[.int .i64 u0, .int .i64 u1, .int .i64 u2, .int .i64 v0, .int .i64 v1, .int .i64 v2] 25)).heap.size = w2.heap.size + 1 := by simp
      replace HB := Lib.hid (HB.out.trans (hbb.mono HB.out.size))
      have kb := Lib.hid (Lok.new w2 25 #[.int .i64 u0, .int .i64 u1, .int .i64 u2, .int .i64 v0, .int .i64 v1, .int .i64 v2])
      clear hbb
      generalize w2.alloc (.cells #[.int .i64 u0, .int .i64 u1, .int .i64 u2, .int .i64 v0, .int .i64 v1, .int .i64 v2] 25) = Vb at *
      clear zb
      have x0 := kx.out.cell (i := 0) rfl
      have x1 := kx.out.cell (i := 1) rfl
      have x2 := kx.out.cell (i := 2) rfl
      have y0 := ky.out.cell (i := 0) rfl
      have y1 := ky.out.cell (i := 1) rfl
      have y2 := ky.out.cell (i := 2) rfl
      have b0 := kb.out.cell (i := 0) rfl
      have b1 := kb.out.cell (i := 1) rfl
      have b2 := kb.out.cell (i := 2) rfl
      have b3 := kb.out.cell (i := 3) rfl
      have b4 := kb.out.cell (i := 4) rfl
      have b5 := kb.out.cell (i := 5) rfl
      go_wp2_with fail
      clear x0 x1 x2 y0 y1 y2 b0 b1 b2 b3 b4 b5
      (((with_reducible refine (M.out _).mono ?_); rintro e w3 ⟨rfl, hb3⟩); replace HB := Lib.hid (HB.out.trans (hb3.mono HB.out.size)); replace kx := Lib.hid (kx.out.keep hb3); replace ky := Lib.hid (ky.out.keep hb3); replace kb := Lib.hid (kb.out.keep hb3); clear hb3)
      clear M kx ky kb
      go_wp2_with fail
      (((with_reducible refine (BD.out _).mono ?_); rintro e w4 ⟨rfl, hb4⟩); replace HB := Lib.hid (HB.out.trans (hb4.mono HB.out.size)); clear hb4)
      clear BD
      go_wp2
      go_ret
      exact ⟨rfl, HB.out⟩
end Go.Proofs.Ytfghjfgdjlkooaa
