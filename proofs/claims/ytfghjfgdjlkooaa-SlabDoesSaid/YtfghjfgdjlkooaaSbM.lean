/-
  The law SlabDoes, walked. (gen/SbM.py)
-/
import Derived.Test.YtfghjfgdjlkooaaSbS
import Derived.Test.YtfghjfgdjlkooaaSbU
import Derived.Test.YtfghjfgdjlkooaaSbV
namespace Go.Proofs.Ytfghjfgdjlkooaa
open Go.RowKit

set_option maxRecDepth 100000 in
set_option maxHeartbeats 16000000 in
theorem law_does (a1 a2 a3 c1 c2 c3 l1 l2 l3 h1 h2 h3 m1 m2 m3 k1 k2 k3 : Int) (P : Option Addr) (n c : Nat) (F : Nat → Nat → Int) (w : World) (hr : RowK w P n 3 F) (hn : n ≤ 9223372036854775807) :
    Calls Try.prog 3 #[.agg #[.int .i64 a1, .int .i64 a2, .int .i64 a3], .agg #[.int .i64 c1, .int .i64 c2, .int .i64 c3], .agg #[.int .i64 l1, .int .i64 l2, .int .i64 l3, .int .i64 h1, .int .i64 h2, .int .i64 h3], .agg #[.int .i64 m1, .int .i64 m2, .int .i64 m3, .int .i64 k1, .int .i64 k2, .int .i64 k3], .slice P n c] w fun e' w' => e' = .returned (.bool true) ∧ Below w.heap.size w w' := by
  have HB := Lib.hid (Below.refl w.heap.size w)
  have R := Lib.hid hr
  clear hr
  by_cases h60 : 60 < n
  · have h61 : (60 : Int) < (n : Int) := by omega
    go_enter Try.func3, Try.ntmps3
    go_upto_region 1 with fail
    have hbx := below_new1 w (.cells #[.int .i64 a1, .int .i64 a2, .int .i64 a3] 23)
    have zx : (w.alloc (.cells #[.int .i64 a1, .int .i64 a2, .int .i64 a3] 23)).heap.size = w.heap.size + 1 := by simp
    have HB := Lib.hid hbx
    have kx := Lib.hid (Lok.new w 23 #[.int .i64 a1, .int .i64 a2, .int .i64 a3])
    clear hbx
    generalize w.alloc (.cells #[.int .i64 a1, .int .i64 a2, .int .i64 a3] 23) = Vx at *
    have hby := below_new1 Vx (.cells #[.int .i64 c1, .int .i64 c2, .int .i64 c3] 23)
    replace kx := Lib.hid (kx.out.keep hby)
    have zy : (Vx.alloc (.cells #[.int .i64 c1, .int .i64 c2, .int .i64 c3] 23)).heap.size = Vx.heap.size + 1 := by simp
    replace HB := Lib.hid (HB.out.trans (hby.mono HB.out.size))
    have ky := Lib.hid (Lok.new Vx 23 #[.int .i64 c1, .int .i64 c2, .int .i64 c3])
    clear hby
    generalize Vx.alloc (.cells #[.int .i64 c1, .int .i64 c2, .int .i64 c3] 23) = Vy at *
    rw [zx] at ky zy
    have hbb := below_new1 Vy (.cells #[.int .i64 l1, .int .i64 l2, .int .i64 l3, .int .i64 h1, .int .i64 h2, .int .i64 h3] 25)
    replace kx := Lib.hid (kx.out.keep hbb)
    replace ky := Lib.hid (ky.out.keep hbb)
    have zb : (Vy.alloc (.cells #[.int .i64 l1, .int .i64 l2, .int .i64 l3, .int .i64 h1, .int .i64 h2, .int .i64 h3] 25)).heap.size = Vy.heap.size + 1 := by simp
    replace HB := Lib.hid (HB.out.trans (hbb.mono HB.out.size))
    have kb := Lib.hid (Lok.new Vy 25 #[.int .i64 l1, .int .i64 l2, .int .i64 l3, .int .i64 h1, .int .i64 h2, .int .i64 h3])
    clear hbb
    generalize Vy.alloc (.cells #[.int .i64 l1, .int .i64 l2, .int .i64 l3, .int .i64 h1, .int .i64 h2, .int .i64 h3] 25) = Vb at *
    rw [zy] at kb zb
    have hbd := below_new1 Vb (.cells #[.int .i64 m1, .int .i64 m2, .int .i64 m3, .int .i64 k1, .int .i64 k2, .int .i64 k3] 25)
    replace kx := Lib.hid (kx.out.keep hbd)
    replace ky := Lib.hid (ky.out.keep hbd)
    replace kb := Lib.hid (kb.out.keep hbd)
    have zd : (Vb.alloc (.cells #[.int .i64 m1, .int .i64 m2, .int .i64 m3, .int .i64 k1, .int .i64 k2, .int .i64 k3] 25)).heap.size = Vb.heap.size + 1 := by simp
    replace HB := Lib.hid (HB.out.trans (hbd.mono HB.out.size))
    have kd := Lib.hid (Lok.new Vb 25 #[.int .i64 m1, .int .i64 m2, .int .i64 m3, .int .i64 k1, .int .i64 k2, .int .i64 k3])
    clear hbd
    generalize Vb.alloc (.cells #[.int .i64 m1, .int .i64 m2, .int .i64 m3, .int .i64 k1, .int .i64 k2, .int .i64 k3] 25) = Vd at *
    rw [zb] at kd
    clear zx zy zb zd
    clear kx ky kb kd
    go_wp2
    go_ret
    exact ⟨rfl, HB.out⟩
  · have h61 : ¬ (60 : Int) < (n : Int) := by omega
    have BD := Lib.hid (fun W => boxed_any W)
    have O1 := Lib.hid (fun W (h : Below w.heap.size w W) => slof_any P n c F W (R.out.keep h) (by omega))
    have O2 := Lib.hid (fun W (h : Below w.heap.size w W) => rslof_any P n c F W (R.out.keep h) (by omega))
    have J1 := Lib.hid (fun W => sljoin_any l1 l2 l3 h1 h2 h3 m1 m2 m3 k1 k2 k3 W)
    have J2 := Lib.hid (fun W => rsljoin_any l1 l2 l3 h1 h2 h3 m1 m2 m3 k1 k2 k3 W)
    have M1 := Lib.hid (fun W => meets_any a1 a2 a3 c1 c2 c3 l1 l2 l3 h1 h2 h3 _ rfl W)
    have M2 := Lib.hid (fun W => rmeets_any a1 a2 a3 c1 c2 c3 l1 l2 l3 h1 h2 h3 _ rfl W)
    have G1 := Lib.hid (fun W => longest_any l1 l2 l3 h1 h2 h3 W)
    have G2 := Lib.hid (fun W => rlongest_any l1 l2 l3 h1 h2 h3 W)
    have I1 := Lib.hid (fun W => slis_any l1 l2 l3 h1 h2 h3 W)
    have I2 := Lib.hid (fun W => rslis_any l1 l2 l3 h1 h2 h3 W)
    have S1 := Lib.hid (fun W => slhas_any l1 l2 l3 h1 h2 h3 a1 a2 a3 W)
    have S2 := Lib.hid (fun W => rslhas_any l1 l2 l3 h1 h2 h3 a1 a2 a3 W)
    clear R
    generalize vF (bxY n (aS3 F n)) (lwF F 0 n) = u0 at *
    generalize vF (bxY n (aS3 F n)) (lwF F 1 n) = u1 at *
    generalize vF (bxY n (aS3 F n)) (lwF F 2 n) = u2 at *
    generalize vF (bxY n (aS3 F n)) (hiF F 0 n) = u3 at *
    generalize vF (bxY n (aS3 F n)) (hiF F 1 n) = u4 at *
    generalize vF (bxY n (aS3 F n)) (hiF F 2 n) = u5 at *
    generalize bxE n (aS3 F n) = eo at *
    generalize vF (bxR l1 l2 l3 h1 h2 h3 && bxR m1 m2 m3 k1 k2 k3) (min l1 m1) = v0 at *
    generalize vF (bxR l1 l2 l3 h1 h2 h3 && bxR m1 m2 m3 k1 k2 k3) (min l2 m2) = v1 at *
    generalize vF (bxR l1 l2 l3 h1 h2 h3 && bxR m1 m2 m3 k1 k2 k3) (min l3 m3) = v2 at *
    generalize vF (bxR l1 l2 l3 h1 h2 h3 && bxR m1 m2 m3 k1 k2 k3) (max h1 k1) = v3 at *
    generalize vF (bxR l1 l2 l3 h1 h2 h3 && bxR m1 m2 m3 k1 k2 k3) (max h2 k2) = v4 at *
    generalize vF (bxR l1 l2 l3 h1 h2 h3 && bxR m1 m2 m3 k1 k2 k3) (max h3 k3) = v5 at *
    generalize aE (bxR l1 l2 l3 h1 h2 h3 && bxR m1 m2 m3 k1 k2 k3) = ej at *
    generalize ((s3 a1 a2 a3 && s3 c1 c2 c3) && (bxR l1 l2 l3 h1 h2 h3 && meP a1 a2 a3 c1 c2 c3 l1 l2 l3 h1 h2 h3)) = mm at *
    generalize meE (s3 a1 a2 a3 && s3 c1 c2 c3) (bxR l1 l2 l3 h1 h2 h3) = em at *
    generalize lgV (bxR l1 l2 l3 h1 h2 h3) l1 l2 l3 h1 h2 h3 = lg at *
    generalize aE (bxR l1 l2 l3 h1 h2 h3) = eg at *
    generalize bxH l1 l2 l3 h1 h2 h3 a1 a2 a3 = hs at *
    generalize bxR l1 l2 l3 h1 h2 h3 = rb at *
    go_enter Try.func3, Try.ntmps3
    go_upto_region 1 with fail
    have hbx := below_new1 w (.cells #[.int .i64 a1, .int .i64 a2, .int .i64 a3] 23)
    have zx : (w.alloc (.cells #[.int .i64 a1, .int .i64 a2, .int .i64 a3] 23)).heap.size = w.heap.size + 1 := by simp
    have HB := Lib.hid hbx
    have kx := Lib.hid (Lok.new w 23 #[.int .i64 a1, .int .i64 a2, .int .i64 a3])
    clear hbx
    generalize w.alloc (.cells #[.int .i64 a1, .int .i64 a2, .int .i64 a3] 23) = Vx at *
    have hby := below_new1 Vx (.cells #[.int .i64 c1, .int .i64 c2, .int .i64 c3] 23)
    replace kx := Lib.hid (kx.out.keep hby)
    have zy : (Vx.alloc (.cells #[.int .i64 c1, .int .i64 c2, .int .i64 c3] 23)).heap.size = Vx.heap.size + 1 := by simp
    replace HB := Lib.hid (HB.out.trans (hby.mono HB.out.size))
    have ky := Lib.hid (Lok.new Vx 23 #[.int .i64 c1, .int .i64 c2, .int .i64 c3])
    clear hby
    generalize Vx.alloc (.cells #[.int .i64 c1, .int .i64 c2, .int .i64 c3] 23) = Vy at *
    rw [zx] at ky zy
    have hbb := below_new1 Vy (.cells #[.int .i64 l1, .int .i64 l2, .int .i64 l3, .int .i64 h1, .int .i64 h2, .int .i64 h3] 25)
    replace kx := Lib.hid (kx.out.keep hbb)
    replace ky := Lib.hid (ky.out.keep hbb)
    have zb : (Vy.alloc (.cells #[.int .i64 l1, .int .i64 l2, .int .i64 l3, .int .i64 h1, .int .i64 h2, .int .i64 h3] 25)).heap.size = Vy.heap.size + 1 := by simp
    replace HB := Lib.hid (HB.out.trans (hbb.mono HB.out.size))
    have kb := Lib.hid (Lok.new Vy 25 #[.int .i64 l1, .int .i64 l2, .int .i64 l3, .int .i64 h1, .int .i64 h2, .int .i64 h3])
    clear hbb
    generalize Vy.alloc (.cells #[.int .i64 l1, .int .i64 l2, .int .i64 l3, .int .i64 h1, .int .i64 h2, .int .i64 h3] 25) = Vb at *
    rw [zy] at kb zb
    have hbd := below_new1 Vb (.cells #[.int .i64 m1, .int .i64 m2, .int .i64 m3, .int .i64 k1, .int .i64 k2, .int .i64 k3] 25)
    replace kx := Lib.hid (kx.out.keep hbd)
    replace ky := Lib.hid (ky.out.keep hbd)
    replace kb := Lib.hid (kb.out.keep hbd)
    have zd : (Vb.alloc (.cells #[.int .i64 m1, .int .i64 m2, .int .i64 m3, .int .i64 k1, .int .i64 k2, .int .i64 k3] 25)).heap.size = Vb.heap.size + 1 := by simp
    replace HB := Lib.hid (HB.out.trans (hbd.mono HB.out.size))
    have kd := Lib.hid (Lok.new Vb 25 #[.int .i64 m1, .int .i64 m2, .int .i64 m3, .int .i64 k1, .int .i64 k2, .int .i64 k3])
    clear hbd
    generalize Vb.alloc (.cells #[.int .i64 m1, .int .i64 m2, .int .i64 m3, .int .i64 k1, .int .i64 k2, .int .i64 k3] 25) = Vd at *
    rw [zb] at kd
    clear zx zy zb zd
    go_wp2_with fail
    (((with_reducible refine (O1.out _ HB.out).mono ?_); rintro e w1 ⟨rfl, hb1⟩); replace HB := Lib.hid (HB.out.trans (hb1.mono HB.out.size)); replace kx := Lib.hid (kx.out.keep hb1); replace ky := Lib.hid (ky.out.keep hb1); replace kb := Lib.hid (kb.out.keep hb1); replace kd := Lib.hid (kd.out.keep hb1); clear hb1)
    clear O1
    go_upto_region 4 with fail
    have hbp := below_new1 w1 (.cells #[.int .i64 u0, .int .i64 u1, .int .i64 u2, .int .i64 u3, .int .i64 u4, .int .i64 u5] 25)
    replace kx := Lib.hid (kx.out.keep hbp)
    replace ky := Lib.hid (ky.out.keep hbp)
    replace kb := Lib.hid (kb.out.keep hbp)
    replace kd := Lib.hid (kd.out.keep hbp)
    have zp : (w1.alloc (.cells #[.int .i64 u0, .int .i64 u1, .int .i64 u2, .int .i64 u3, .int .i64 u4, .int .i64 u5] 25)).heap.size = w1.heap.size + 1 := by simp
    replace HB := Lib.hid (HB.out.trans (hbp.mono HB.out.size))
    have kp := Lib.hid (Lok.new w1 25 #[.int .i64 u0, .int .i64 u1, .int .i64 u2, .int .i64 u3, .int .i64 u4, .int .i64 u5])
    clear hbp
    generalize w1.alloc (.cells #[.int .i64 u0, .int .i64 u1, .int .i64 u2, .int .i64 u3, .int .i64 u4, .int .i64 u5] 25) = Vp at *
    clear zp
    go_wp2_with fail
    (((with_reducible refine (O2.out _ HB.out).mono ?_); rintro e w2 ⟨rfl, hb2⟩); replace HB := Lib.hid (HB.out.trans (hb2.mono HB.out.size)); replace kx := Lib.hid (kx.out.keep hb2); replace ky := Lib.hid (ky.out.keep hb2); replace kb := Lib.hid (kb.out.keep hb2); replace kd := Lib.hid (kd.out.keep hb2); replace kp := Lib.hid (kp.out.keep hb2); clear hb2)
    clear O2
    go_upto_region 5 with fail
    have hbq := below_new1 w2 (.cells #[.int .i64 u0, .int .i64 u1, .int .i64 u2, .int .i64 u3, .int .i64 u4, .int .i64 u5] 25)
    replace kx := Lib.hid (kx.out.keep hbq)
    replace ky := Lib.hid (ky.out.keep hbq)
    replace kb := Lib.hid (kb.out.keep hbq)
    replace kd := Lib.hid (kd.out.keep hbq)
    replace kp := Lib.hid (kp.out.keep hbq)
    have zq : (w2.alloc (.cells #[.int .i64 u0, .int .i64 u1, .int .i64 u2, .int .i64 u3, .int .i64 u4, .int .i64 u5] 25)).heap.size = w2.heap.size + 1 := by simp
    replace HB := Lib.hid (HB.out.trans (hbq.mono HB.out.size))
    have kq := Lib.hid (Lok.new w2 25 #[.int .i64 u0, .int .i64 u1, .int .i64 u2, .int .i64 u3, .int .i64 u4, .int .i64 u5])
    clear hbq
    generalize w2.alloc (.cells #[.int .i64 u0, .int .i64 u1, .int .i64 u2, .int .i64 u3, .int .i64 u4, .int .i64 u5] 25) = Vq at *
    clear zq
    have b0 := kb.out.cell (i := 0) rfl
    have b1 := kb.out.cell (i := 1) rfl
    have b2 := kb.out.cell (i := 2) rfl
    have b3 := kb.out.cell (i := 3) rfl
    have b4 := kb.out.cell (i := 4) rfl
    have b5 := kb.out.cell (i := 5) rfl
    have d0 := kd.out.cell (i := 0) rfl
    have d1 := kd.out.cell (i := 1) rfl
    have d2 := kd.out.cell (i := 2) rfl
    have d3 := kd.out.cell (i := 3) rfl
    have d4 := kd.out.cell (i := 4) rfl
    have d5 := kd.out.cell (i := 5) rfl
    go_wp2_with fail
    clear b0 b1 b2 b3 b4 b5 d0 d1 d2 d3 d4 d5
    (((with_reducible refine (J1.out _).mono ?_); rintro e w3 ⟨rfl, hb3⟩); replace HB := Lib.hid (HB.out.trans (hb3.mono HB.out.size)); replace kx := Lib.hid (kx.out.keep hb3); replace ky := Lib.hid (ky.out.keep hb3); replace kb := Lib.hid (kb.out.keep hb3); replace kd := Lib.hid (kd.out.keep hb3); replace kp := Lib.hid (kp.out.keep hb3); replace kq := Lib.hid (kq.out.keep hb3); clear hb3)
    clear J1
    go_upto_region 6 with fail
    have hbr := below_new1 w3 (.cells #[.int .i64 v0, .int .i64 v1, .int .i64 v2, .int .i64 v3, .int .i64 v4, .int .i64 v5] 25)
    replace kx := Lib.hid (kx.out.keep hbr)
    replace ky := Lib.hid (ky.out.keep hbr)
    replace kb := Lib.hid (kb.out.keep hbr)
    replace kd := Lib.hid (kd.out.keep hbr)
    replace kp := Lib.hid (kp.out.keep hbr)
    replace kq := Lib.hid (kq.out.keep hbr)
    have zr : (w3.alloc (.cells #[.int .i64 v0, .int .i64 v1, .int .i64 v2, .int .i64 v3, .int .i64 v4, .int .i64 v5] 25)).heap.size = w3.heap.size + 1 := by simp
    replace HB := Lib.hid (HB.out.trans (hbr.mono HB.out.size))
    have kr := Lib.hid (Lok.new w3 25 #[.int .i64 v0, .int .i64 v1, .int .i64 v2, .int .i64 v3, .int .i64 v4, .int .i64 v5])
    clear hbr
    generalize w3.alloc (.cells #[.int .i64 v0, .int .i64 v1, .int .i64 v2, .int .i64 v3, .int .i64 v4, .int .i64 v5] 25) = Vr at *
    clear zr
    have b0 := kb.out.cell (i := 0) rfl
    have b1 := kb.out.cell (i := 1) rfl
    have b2 := kb.out.cell (i := 2) rfl
    have b3 := kb.out.cell (i := 3) rfl
    have b4 := kb.out.cell (i := 4) rfl
    have b5 := kb.out.cell (i := 5) rfl
    have d0 := kd.out.cell (i := 0) rfl
    have d1 := kd.out.cell (i := 1) rfl
    have d2 := kd.out.cell (i := 2) rfl
    have d3 := kd.out.cell (i := 3) rfl
    have d4 := kd.out.cell (i := 4) rfl
    have d5 := kd.out.cell (i := 5) rfl
    go_wp2_with fail
    clear b0 b1 b2 b3 b4 b5 d0 d1 d2 d3 d4 d5
    (((with_reducible refine (J2.out _).mono ?_); rintro e w4 ⟨rfl, hb4⟩); replace HB := Lib.hid (HB.out.trans (hb4.mono HB.out.size)); replace kx := Lib.hid (kx.out.keep hb4); replace ky := Lib.hid (ky.out.keep hb4); replace kb := Lib.hid (kb.out.keep hb4); replace kd := Lib.hid (kd.out.keep hb4); replace kp := Lib.hid (kp.out.keep hb4); replace kq := Lib.hid (kq.out.keep hb4); replace kr := Lib.hid (kr.out.keep hb4); clear hb4)
    clear J2
    go_upto_region 7 with fail
    have hbs := below_new1 w4 (.cells #[.int .i64 v0, .int .i64 v1, .int .i64 v2, .int .i64 v3, .int .i64 v4, .int .i64 v5] 25)
    replace kx := Lib.hid (kx.out.keep hbs)
    replace ky := Lib.hid (ky.out.keep hbs)
    replace kb := Lib.hid (kb.out.keep hbs)
    replace kd := Lib.hid (kd.out.keep hbs)
    replace kp := Lib.hid (kp.out.keep hbs)
    replace kq := Lib.hid (kq.out.keep hbs)
    replace kr := Lib.hid (kr.out.keep hbs)
    have zs : (w4.alloc (.cells #[.int .i64 v0, .int .i64 v1, .int .i64 v2, .int .i64 v3, .int .i64 v4, .int .i64 v5] 25)).heap.size = w4.heap.size + 1 := by simp
    replace HB := Lib.hid (HB.out.trans (hbs.mono HB.out.size))
    have ks := Lib.hid (Lok.new w4 25 #[.int .i64 v0, .int .i64 v1, .int .i64 v2, .int .i64 v3, .int .i64 v4, .int .i64 v5])
    clear hbs
    generalize w4.alloc (.cells #[.int .i64 v0, .int .i64 v1, .int .i64 v2, .int .i64 v3, .int .i64 v4, .int .i64 v5] 25) = Vs at *
    clear zs
    have x0 := kx.out.cell (i := 0) rfl
    have x1 := kx.out.cell (i := 1) rfl
    have x2 := kx.out.cell (i := 2) rfl
    have y0 := ky.out.cell (i := 0) rfl
    have y1 := ky.out.cell (i := 1) rfl
    have y2 := ky.out.cell (i := 2) rfl
    have b0 := kb.out.cell (i := 0) rfl
    have b1 := kb.out.cell (i := 1) rfl
    have b2 := kb.out.cell (i := 2) rfl
    have b3 := kb.out.cell (i := 3) rfl
    have b4 := kb.out.cell (i := 4) rfl
    have b5 := kb.out.cell (i := 5) rfl
    go_wp2_with fail
    clear x0 x1 x2 y0 y1 y2 b0 b1 b2 b3 b4 b5
    (((with_reducible refine (M1.out _).mono ?_); rintro e w5 ⟨rfl, hb5⟩); replace HB := Lib.hid (HB.out.trans (hb5.mono HB.out.size)); replace kx := Lib.hid (kx.out.keep hb5); replace ky := Lib.hid (ky.out.keep hb5); replace kb := Lib.hid (kb.out.keep hb5); replace kd := Lib.hid (kd.out.keep hb5); replace kp := Lib.hid (kp.out.keep hb5); replace kq := Lib.hid (kq.out.keep hb5); replace kr := Lib.hid (kr.out.keep hb5); replace ks := Lib.hid (ks.out.keep hb5); clear hb5)
    clear M1
    have x0 := kx.out.cell (i := 0) rfl
    have x1 := kx.out.cell (i := 1) rfl
    have x2 := kx.out.cell (i := 2) rfl
    have y0 := ky.out.cell (i := 0) rfl
    have y1 := ky.out.cell (i := 1) rfl
    have y2 := ky.out.cell (i := 2) rfl
    have b0 := kb.out.cell (i := 0) rfl
    have b1 := kb.out.cell (i := 1) rfl
    have b2 := kb.out.cell (i := 2) rfl
    have b3 := kb.out.cell (i := 3) rfl
    have b4 := kb.out.cell (i := 4) rfl
    have b5 := kb.out.cell (i := 5) rfl
    go_wp2_with fail
    clear x0 x1 x2 y0 y1 y2 b0 b1 b2 b3 b4 b5
    (((with_reducible refine (M2.out _).mono ?_); rintro e w6 ⟨rfl, hb6⟩); replace HB := Lib.hid (HB.out.trans (hb6.mono HB.out.size)); replace kx := Lib.hid (kx.out.keep hb6); replace ky := Lib.hid (ky.out.keep hb6); replace kb := Lib.hid (kb.out.keep hb6); replace kd := Lib.hid (kd.out.keep hb6); replace kp := Lib.hid (kp.out.keep hb6); replace kq := Lib.hid (kq.out.keep hb6); replace kr := Lib.hid (kr.out.keep hb6); replace ks := Lib.hid (ks.out.keep hb6); clear hb6)
    clear M2
    have b0 := kb.out.cell (i := 0) rfl
    have b1 := kb.out.cell (i := 1) rfl
    have b2 := kb.out.cell (i := 2) rfl
    have b3 := kb.out.cell (i := 3) rfl
    have b4 := kb.out.cell (i := 4) rfl
    have b5 := kb.out.cell (i := 5) rfl
    go_wp2_with fail
    clear b0 b1 b2 b3 b4 b5
    (((with_reducible refine (G1.out _).mono ?_); rintro e w7 ⟨rfl, hb7⟩); replace HB := Lib.hid (HB.out.trans (hb7.mono HB.out.size)); replace kx := Lib.hid (kx.out.keep hb7); replace ky := Lib.hid (ky.out.keep hb7); replace kb := Lib.hid (kb.out.keep hb7); replace kd := Lib.hid (kd.out.keep hb7); replace kp := Lib.hid (kp.out.keep hb7); replace kq := Lib.hid (kq.out.keep hb7); replace kr := Lib.hid (kr.out.keep hb7); replace ks := Lib.hid (ks.out.keep hb7); clear hb7)
    clear G1
    have b0 := kb.out.cell (i := 0) rfl
    have b1 := kb.out.cell (i := 1) rfl
    have b2 := kb.out.cell (i := 2) rfl
    have b3 := kb.out.cell (i := 3) rfl
    have b4 := kb.out.cell (i := 4) rfl
    have b5 := kb.out.cell (i := 5) rfl
    go_wp2_with fail
    clear b0 b1 b2 b3 b4 b5
    (((with_reducible refine (G2.out _).mono ?_); rintro e w8 ⟨rfl, hb8⟩); replace HB := Lib.hid (HB.out.trans (hb8.mono HB.out.size)); replace kx := Lib.hid (kx.out.keep hb8); replace ky := Lib.hid (ky.out.keep hb8); replace kb := Lib.hid (kb.out.keep hb8); replace kd := Lib.hid (kd.out.keep hb8); replace kp := Lib.hid (kp.out.keep hb8); replace kq := Lib.hid (kq.out.keep hb8); replace kr := Lib.hid (kr.out.keep hb8); replace ks := Lib.hid (ks.out.keep hb8); clear hb8)
    clear G2
    go_upto_region 11 with fail
    have qx0 : ∀ D : Of (PastV w8), _ := fun D => (kx.out.keep (show Below w8.heap.size w8 D.world from D.holds)).cell (i := 0) rfl
    have qx1 : ∀ D : Of (PastV w8), _ := fun D => (kx.out.keep (show Below w8.heap.size w8 D.world from D.holds)).cell (i := 1) rfl
    have qx2 : ∀ D : Of (PastV w8), _ := fun D => (kx.out.keep (show Below w8.heap.size w8 D.world from D.holds)).cell (i := 2) rfl
    have qb0 : ∀ D : Of (PastV w8), _ := fun D => (kb.out.keep (show Below w8.heap.size w8 D.world from D.holds)).cell (i := 0) rfl
    have qb1 : ∀ D : Of (PastV w8), _ := fun D => (kb.out.keep (show Below w8.heap.size w8 D.world from D.holds)).cell (i := 1) rfl
    have qb2 : ∀ D : Of (PastV w8), _ := fun D => (kb.out.keep (show Below w8.heap.size w8 D.world from D.holds)).cell (i := 2) rfl
    have qb3 : ∀ D : Of (PastV w8), _ := fun D => (kb.out.keep (show Below w8.heap.size w8 D.world from D.holds)).cell (i := 3) rfl
    have qb4 : ∀ D : Of (PastV w8), _ := fun D => (kb.out.keep (show Below w8.heap.size w8 D.world from D.holds)).cell (i := 4) rfl
    have qb5 : ∀ D : Of (PastV w8), _ := fun D => (kb.out.keep (show Below w8.heap.size w8 D.world from D.holds)).cell (i := 5) rfl
    have qp0 : ∀ D : Of (PastV w8), _ := fun D => (kp.out.keep (show Below w8.heap.size w8 D.world from D.holds)).cell (i := 0) rfl
    have qp1 : ∀ D : Of (PastV w8), _ := fun D => (kp.out.keep (show Below w8.heap.size w8 D.world from D.holds)).cell (i := 1) rfl
    have qp2 : ∀ D : Of (PastV w8), _ := fun D => (kp.out.keep (show Below w8.heap.size w8 D.world from D.holds)).cell (i := 2) rfl
    have qp3 : ∀ D : Of (PastV w8), _ := fun D => (kp.out.keep (show Below w8.heap.size w8 D.world from D.holds)).cell (i := 3) rfl
    have qp4 : ∀ D : Of (PastV w8), _ := fun D => (kp.out.keep (show Below w8.heap.size w8 D.world from D.holds)).cell (i := 4) rfl
    have qp5 : ∀ D : Of (PastV w8), _ := fun D => (kp.out.keep (show Below w8.heap.size w8 D.world from D.holds)).cell (i := 5) rfl
    have qq0 : ∀ D : Of (PastV w8), _ := fun D => (kq.out.keep (show Below w8.heap.size w8 D.world from D.holds)).cell (i := 0) rfl
    have qq1 : ∀ D : Of (PastV w8), _ := fun D => (kq.out.keep (show Below w8.heap.size w8 D.world from D.holds)).cell (i := 1) rfl
    have qq2 : ∀ D : Of (PastV w8), _ := fun D => (kq.out.keep (show Below w8.heap.size w8 D.world from D.holds)).cell (i := 2) rfl
    have qq3 : ∀ D : Of (PastV w8), _ := fun D => (kq.out.keep (show Below w8.heap.size w8 D.world from D.holds)).cell (i := 3) rfl
    have qq4 : ∀ D : Of (PastV w8), _ := fun D => (kq.out.keep (show Below w8.heap.size w8 D.world from D.holds)).cell (i := 4) rfl
    have qq5 : ∀ D : Of (PastV w8), _ := fun D => (kq.out.keep (show Below w8.heap.size w8 D.world from D.holds)).cell (i := 5) rfl
    have qr0 : ∀ D : Of (PastV w8), _ := fun D => (kr.out.keep (show Below w8.heap.size w8 D.world from D.holds)).cell (i := 0) rfl
    have qr1 : ∀ D : Of (PastV w8), _ := fun D => (kr.out.keep (show Below w8.heap.size w8 D.world from D.holds)).cell (i := 1) rfl
    have qr2 : ∀ D : Of (PastV w8), _ := fun D => (kr.out.keep (show Below w8.heap.size w8 D.world from D.holds)).cell (i := 2) rfl
    have qr3 : ∀ D : Of (PastV w8), _ := fun D => (kr.out.keep (show Below w8.heap.size w8 D.world from D.holds)).cell (i := 3) rfl
    have qr4 : ∀ D : Of (PastV w8), _ := fun D => (kr.out.keep (show Below w8.heap.size w8 D.world from D.holds)).cell (i := 4) rfl
    have qr5 : ∀ D : Of (PastV w8), _ := fun D => (kr.out.keep (show Below w8.heap.size w8 D.world from D.holds)).cell (i := 5) rfl
    have qs0 : ∀ D : Of (PastV w8), _ := fun D => (ks.out.keep (show Below w8.heap.size w8 D.world from D.holds)).cell (i := 0) rfl
    have qs1 : ∀ D : Of (PastV w8), _ := fun D => (ks.out.keep (show Below w8.heap.size w8 D.world from D.holds)).cell (i := 1) rfl
    have qs2 : ∀ D : Of (PastV w8), _ := fun D => (ks.out.keep (show Below w8.heap.size w8 D.world from D.holds)).cell (i := 2) rfl
    have qs3 : ∀ D : Of (PastV w8), _ := fun D => (ks.out.keep (show Below w8.heap.size w8 D.world from D.holds)).cell (i := 3) rfl
    have qs4 : ∀ D : Of (PastV w8), _ := fun D => (ks.out.keep (show Below w8.heap.size w8 D.world from D.holds)).cell (i := 4) rfl
    have qs5 : ∀ D : Of (PastV w8), _ := fun D => (ks.out.keep (show Below w8.heap.size w8 D.world from D.holds)).cell (i := 5) rfl
    have ST := Lib.hid (pastV_stays w8)
    have ne : Nonempty (Of (PastV w8)) := ⟨⟨w8, Below.refl _ _⟩⟩
    refine wp_region_class (S := PastV w8) (by kernel_rfl) (by kernel_rfl) (Below.refl _ _).drew ?_
    repeat (go_big_quiet_step (first | (go_at_call 16; first | (with_reducible exact class_call ST.out _ (BD.out _))) | (go_at_call 17; first | (with_reducible exact class_call ST.out _ (I1.out _))) | (go_at_call 18; first | (with_reducible exact class_call ST.out _ (I2.out _))) | (go_at_call 19; first | (with_reducible exact class_call ST.out _ (S1.out _))) | (go_at_call 20; first | (with_reducible exact class_call ST.out _ (S2.out _)))))
    refine wpQuiet_nil ?_
    rintro _ ⟨D, rfl⟩
    have hD : Below w8.heap.size w8 D.world := D.holds
    replace HB := Lib.hid (HB.out.trans (hD.mono HB.out.size))
    replace kx := Lib.hid (kx.out.keep hD)
    replace ky := Lib.hid (ky.out.keep hD)
    replace kb := Lib.hid (kb.out.keep hD)
    replace kd := Lib.hid (kd.out.keep hD)
    replace kp := Lib.hid (kp.out.keep hD)
    replace kq := Lib.hid (kq.out.keep hD)
    replace kr := Lib.hid (kr.out.keep hD)
    replace ks := Lib.hid (ks.out.keep hD)
    generalize D.world = vd at *
    clear qx0 qx1 qx2 qb0 qb1 qb2 qb3 qb4 qb5 qp0 qp1 qp2 qp3 qp4 qp5 qq0 qq1 qq2 qq3 qq4 qq5 qr0 qr1 qr2 qr3 qr4 qr5 qs0 qs1 qs2 qs3 qs4 qs5 ne ST hD
    go_wp2
    go_ret
    exact ⟨by simp, HB.out⟩
end Go.Proofs.Ytfghjfgdjlkooaa
