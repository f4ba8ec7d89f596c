/-
  The law SignMoves: its walk. (gen/SgM.py)
-/
import Derived.Test.YticjljbglimgeaaSgL
namespace Go.Proofs.Yticjljbglimgeaa
open Go.RowKit

set_option maxRecDepth 100000 in
set_option maxHeartbeats 8000000 in
theorem law_moves_out (a1 a2 b1 b2 c1 c2 d1 d2 p1 p2 p3 q1 q2 q3 r1 r2 r3 g1 g2 g3 t1 t2 t3 : Int) (u2 u3 : Bool) (w : World)
    (S2 : Hid (∀ g T W, Lok W g T #[.int .i64 a1, .int .i64 a2, .int .i64 b1, .int .i64 b2, .int .i64 c1, .int .i64 c2, .int .i64 d1, .int .i64 d2] → Calls Try.prog 19 #[.slice (some ⟨g, 0, none⟩) 4 4] W fun e w' => e = .returned (.bool u2) ∧ Below W.heap.size W w'))
    (S3 : Hid (∀ g T W, Lok W g T #[.int .i64 p1, .int .i64 p2, .int .i64 p3, .int .i64 q1, .int .i64 q2, .int .i64 q3, .int .i64 r1, .int .i64 r2, .int .i64 r3, .int .i64 g1, .int .i64 g2, .int .i64 g3, .int .i64 t1, .int .i64 t2, .int .i64 t3] → Calls Try.prog 21 #[.slice (some ⟨g, 0, none⟩) 5 5] W fun e w' => e = .returned (.bool u3) ∧ Below W.heap.size W w'))
    (h : u2 = false ∨ (u2 = true ∧ u3 = false)) :
    Calls Try.prog 6 #[.agg #[.int .i64 a1, .int .i64 a2], .agg #[.int .i64 b1, .int .i64 b2], .agg #[.int .i64 c1, .int .i64 c2], .agg #[.int .i64 d1, .int .i64 d2], .agg #[.int .i64 p1, .int .i64 p2, .int .i64 p3], .agg #[.int .i64 q1, .int .i64 q2, .int .i64 q3], .agg #[.int .i64 r1, .int .i64 r2, .int .i64 r3], .agg #[.int .i64 g1, .int .i64 g2, .int .i64 g3], .agg #[.int .i64 t1, .int .i64 t2, .int .i64 t3]] w fun e' w' => e' = .returned (.bool true) ∧ Below w.heap.size w w' := by
  have HB := Lib.hid (Below.refl w.heap.size w)
  rcases h with rfl | ⟨rfl, rfl⟩
  · go_enter Try.func6, Try.ntmps6
    go_upto_region 1 with fail
    have hba := below_new1 w (.cells #[.int .i64 a1, .int .i64 a2] 23)
    have za : (w.alloc (.cells #[.int .i64 a1, .int .i64 a2] 23)).heap.size = w.heap.size + 1 := by simp
    have HB := Lib.hid hba
    have ka := Lib.hid (Lok.new w 23 #[.int .i64 a1, .int .i64 a2])
    clear hba
    generalize w.alloc (.cells #[.int .i64 a1, .int .i64 a2] 23) = Va at *
    have hbb := below_new1 Va (.cells #[.int .i64 b1, .int .i64 b2] 23)
    replace ka := Lib.hid (ka.out.keep hbb)
    have zb : (Va.alloc (.cells #[.int .i64 b1, .int .i64 b2] 23)).heap.size = Va.heap.size + 1 := by simp
    replace HB := Lib.hid (HB.out.trans (hbb.mono HB.out.size))
    have kb := Lib.hid (Lok.new Va 23 #[.int .i64 b1, .int .i64 b2])
    clear hbb
    generalize Va.alloc (.cells #[.int .i64 b1, .int .i64 b2] 23) = Vb at *
    rw [za] at kb zb
    have hbc := below_new1 Vb (.cells #[.int .i64 c1, .int .i64 c2] 23)
    replace ka := Lib.hid (ka.out.keep hbc)
    replace kb := Lib.hid (kb.out.keep hbc)
    have zc : (Vb.alloc (.cells #[.int .i64 c1, .int .i64 c2] 23)).heap.size = Vb.heap.size + 1 := by simp
    replace HB := Lib.hid (HB.out.trans (hbc.mono HB.out.size))
    have kc := Lib.hid (Lok.new Vb 23 #[.int .i64 c1, .int .i64 c2])
    clear hbc
    generalize Vb.alloc (.cells #[.int .i64 c1, .int .i64 c2] 23) = Vc at *
    rw [zb] at kc zc
    have hbd := below_new1 Vc (.cells #[.int .i64 d1, .int .i64 d2] 23)
    replace ka := Lib.hid (ka.out.keep hbd)
    replace kb := Lib.hid (kb.out.keep hbd)
    replace kc := Lib.hid (kc.out.keep hbd)
    have zd : (Vc.alloc (.cells #[.int .i64 d1, .int .i64 d2] 23)).heap.size = Vc.heap.size + 1 := by simp
    replace HB := Lib.hid (HB.out.trans (hbd.mono HB.out.size))
    have kd := Lib.hid (Lok.new Vc 23 #[.int .i64 d1, .int .i64 d2])
    clear hbd
    generalize Vc.alloc (.cells #[.int .i64 d1, .int .i64 d2] 23) = Vd at *
    rw [zc] at kd zd
    have hbp := below_new1 Vd (.cells #[.int .i64 p1, .int .i64 p2, .int .i64 p3] 25)
    replace ka := Lib.hid (ka.out.keep hbp)
    replace kb := Lib.hid (kb.out.keep hbp)
    replace kc := Lib.hid (kc.out.keep hbp)
    replace kd := Lib.hid (kd.out.keep hbp)
    have zp : (Vd.alloc (.cells #[.int .i64 p1, .int .i64 p2, .int .i64 p3] 25)).heap.size = Vd.heap.size + 1 := by simp
    replace HB := Lib.hid (HB.out.trans (hbp.mono HB.out.size))
    have kp := Lib.hid (Lok.new Vd 25 #[.int .i64 p1, .int .i64 p2, .int .i64 p3])
    clear hbp
    generalize Vd.alloc (.cells #[.int .i64 p1, .int .i64 p2, .int .i64 p3] 25) = Vp at *
    rw [zd] at kp zp
    have hbq := below_new1 Vp (.cells #[.int .i64 q1, .int .i64 q2, .int .i64 q3] 25)
    replace ka := Lib.hid (ka.out.keep hbq)
    replace kb := Lib.hid (kb.out.keep hbq)
    replace kc := Lib.hid (kc.out.keep hbq)
    replace kd := Lib.hid (kd.out.keep hbq)
    replace kp := Lib.hid (kp.out.keep hbq)
    have zq : (Vp.alloc (.cells #[.int .i64 q1, .int .i64 q2, .int .i64 q3] 25)).heap.size = Vp.heap.size + 1 := by simp
    replace HB := Lib.hid (HB.out.trans (hbq.mono HB.out.size))
    have kq := Lib.hid (Lok.new Vp 25 #[.int .i64 q1, .int .i64 q2, .int .i64 q3])
    clear hbq
    generalize Vp.alloc (.cells #[.int .i64 q1, .int .i64 q2, .int .i64 q3] 25) = Vq at *
    rw [zp] at kq zq
    have hbr := below_new1 Vq (.cells #[.int .i64 r1, .int .i64 r2, .int .i64 r3] 25)
    replace ka := Lib.hid (ka.out.keep hbr)
    replace kb := Lib.hid (kb.out.keep hbr)
    replace kc := Lib.hid (kc.out.keep hbr)
    replace kd := Lib.hid (kd.out.keep hbr)
    replace kp := Lib.hid (kp.out.keep hbr)
    replace kq := Lib.hid (kq.out.keep hbr)
    have zr : (Vq.alloc (.cells #[.int .i64 r1, .int .i64 r2, .int .i64 r3] 25)).heap.size = Vq.heap.size + 1 := by simp
    replace HB := Lib.hid (HB.out.trans (hbr.mono HB.out.size))
    have kr := Lib.hid (Lok.new Vq 25 #[.int .i64 r1, .int .i64 r2, .int .i64 r3])
    clear hbr
    generalize Vq.alloc (.cells #[.int .i64 r1, .int .i64 r2, .int .i64 r3] 25) = Vr at *
    rw [zq] at kr zr
    have hbg := below_new1 Vr (.cells #[.int .i64 g1, .int .i64 g2, .int .i64 g3] 25)
    replace ka := Lib.hid (ka.out.keep hbg)
    replace kb := Lib.hid (kb.out.keep hbg)
    replace kc := Lib.hid (kc.out.keep hbg)
    replace kd := Lib.hid (kd.out.keep hbg)
    replace kp := Lib.hid (kp.out.keep hbg)
    replace kq := Lib.hid (kq.out.keep hbg)
    replace kr := Lib.hid (kr.out.keep hbg)
    have zg : (Vr.alloc (.cells #[.int .i64 g1, .int .i64 g2, .int .i64 g3] 25)).heap.size = Vr.heap.size + 1 := by simp
    replace HB := Lib.hid (HB.out.trans (hbg.mono HB.out.size))
    have kg := Lib.hid (Lok.new Vr 25 #[.int .i64 g1, .int .i64 g2, .int .i64 g3])
    clear hbg
    generalize Vr.alloc (.cells #[.int .i64 g1, .int .i64 g2, .int .i64 g3] 25) = Vg at *
    rw [zr] at kg zg
    have hbt := below_new1 Vg (.cells #[.int .i64 t1, .int .i64 t2, .int .i64 t3] 25)
    replace ka := Lib.hid (ka.out.keep hbt)
    replace kb := Lib.hid (kb.out.keep hbt)
    replace kc := Lib.hid (kc.out.keep hbt)
    replace kd := Lib.hid (kd.out.keep hbt)
    replace kp := Lib.hid (kp.out.keep hbt)
    replace kq := Lib.hid (kq.out.keep hbt)
    replace kr := Lib.hid (kr.out.keep hbt)
    replace kg := Lib.hid (kg.out.keep hbt)
    have zt : (Vg.alloc (.cells #[.int .i64 t1, .int .i64 t2, .int .i64 t3] 25)).heap.size = Vg.heap.size + 1 := by simp
    replace HB := Lib.hid (HB.out.trans (hbt.mono HB.out.size))
    have kt := Lib.hid (Lok.new Vg 25 #[.int .i64 t1, .int .i64 t2, .int .i64 t3])
    clear hbt
    generalize Vg.alloc (.cells #[.int .i64 t1, .int .i64 t2, .int .i64 t3] 25) = Vt at *
    rw [zg] at kt
    clear za zb zc zd zp zq zr zg zt
    have a0 := ka.out.cell (i := 0) rfl
    have a1 := ka.out.cell (i := 1) rfl
    have b0 := kb.out.cell (i := 0) rfl
    have b1 := kb.out.cell (i := 1) rfl
    have c0 := kc.out.cell (i := 0) rfl
    have c1 := kc.out.cell (i := 1) rfl
    have d0 := kd.out.cell (i := 0) rfl
    have d1 := kd.out.cell (i := 1) rfl
    go_wp2_with fail
    clear a0 a1 b0 b1 c0 c1 d0 d1
    have hbm := below_new1 Vt (.cells #[.int .i64 a1, .int .i64 a2, .int .i64 b1, .int .i64 b2, .int .i64 c1, .int .i64 c2, .int .i64 d1, .int .i64 d2] 23)
    replace ka := Lib.hid (ka.out.keep hbm)
    replace kb := Lib.hid (kb.out.keep hbm)
    replace kc := Lib.hid (kc.out.keep hbm)
    replace kd := Lib.hid (kd.out.keep hbm)
    replace kp := Lib.hid (kp.out.keep hbm)
    replace kq := Lib.hid (kq.out.keep hbm)
    replace kr := Lib.hid (kr.out.keep hbm)
    replace kg := Lib.hid (kg.out.keep hbm)
    replace kt := Lib.hid (kt.out.keep hbm)
    have zm : (Vt.alloc (.cells #[.int .i64 a1, .int .i64 a2, .int .i64 b1, .int .i64 b2, .int .i64 c1, .int .i64 c2, .int .i64 d1, .int .i64 d2] 23)).heap.size = Vt.heap.size + 1 := by simp
    replace HB := Lib.hid (HB.out.trans (hbm.mono HB.out.size))
    have km := Lib.hid (Lok.new Vt 23 #[.int .i64 a1, .int .i64 a2, .int .i64 b1, .int .i64 b2, .int .i64 c1, .int .i64 c2, .int .i64 d1, .int .i64 d2])
    clear hbm
    generalize Vt.alloc (.cells #[.int .i64 a1, .int .i64 a2, .int .i64 b1, .int .i64 b2, .int .i64 c1, .int .i64 c2, .int .i64 d1, .int .i64 d2] 23) = Vm at *
    clear zm
    generalize Vt.heap.size = gm at *
    (((with_reducible refine (S2.out _ _ _ km.out).mono ?_); rintro e w1 ⟨rfl, hb1⟩); replace HB := Lib.hid (HB.out.trans (hb1.mono HB.out.size)); replace ka := Lib.hid (ka.out.keep hb1); replace kb := Lib.hid (kb.out.keep hb1); replace kc := Lib.hid (kc.out.keep hb1); replace kd := Lib.hid (kd.out.keep hb1); replace kp := Lib.hid (kp.out.keep hb1); replace kq := Lib.hid (kq.out.keep hb1); replace kr := Lib.hid (kr.out.keep hb1); replace kg := Lib.hid (kg.out.keep hb1); replace kt := Lib.hid (kt.out.keep hb1); clear hb1)
    clear km
    go_wp2_with fail
    (((with_reducible refine (sided_any _).mono ?_); rintro e w3 ⟨rfl, hb3⟩); replace HB := Lib.hid (HB.out.trans (hb3.mono HB.out.size)); replace ka := Lib.hid (ka.out.keep hb3); replace kb := Lib.hid (kb.out.keep hb3); replace kc := Lib.hid (kc.out.keep hb3); replace kd := Lib.hid (kd.out.keep hb3); replace kp := Lib.hid (kp.out.keep hb3); replace kq := Lib.hid (kq.out.keep hb3); replace kr := Lib.hid (kr.out.keep hb3); replace kg := Lib.hid (kg.out.keep hb3); replace kt := Lib.hid (kt.out.keep hb3); clear hb3)
    go_wp2
    go_ret
    exact ⟨rfl, HB.out⟩
  · go_enter Try.func6, Try.ntmps6
    go_upto_region 1 with fail
    have hba := below_new1 w (.cells #[.int .i64 a1, .int .i64 a2] 23)
    have za : (w.alloc (.cells #[.int .i64 a1, .int .i64 a2] 23)).heap.size = w.heap.size + 1 := by simp
    have HB := Lib.hid hba
    have ka := Lib.hid (Lok.new w 23 #[.int .i64 a1, .int .i64 a2])
    clear hba
    generalize w.alloc (.cells #[.int .i64 a1, .int .i64 a2] 23) = Va at *
    have hbb := below_new1 Va (.cells #[.int .i64 b1, .int .i64 b2] 23)
    replace ka := Lib.hid (ka.out.keep hbb)
    have zb : (Va.alloc (.cells #[.int .i64 b1, .int .i64 b2] 23)).heap.size = Va.heap.size + 1 := by simp
    replace HB := Lib.hid (HB.out.trans (hbb.mono HB.out.size))
    have kb := Lib.hid (Lok.new Va 23 #[.int .i64 b1, .int .i64 b2])
    clear hbb
    generalize Va.alloc (.cells #[.int .i64 b1, .int .i64 b2] 23) = Vb at *
    rw [za] at kb zb
    have hbc := below_new1 Vb (.cells #[.int .i64 c1, .int .i64 c2] 23)
    replace ka := Lib.hid (ka.out.keep hbc)
    replace kb := Lib.hid (kb.out.keep hbc)
    have zc : (Vb.alloc (.cells #[.int .i64 c1, .int .i64 c2] 23)).heap.size = Vb.heap.size + 1 := by simp
    replace HB := Lib.hid (HB.out.trans (hbc.mono HB.out.size))
    have kc := Lib.hid (Lok.new Vb 23 #[.int .i64 c1, .int .i64 c2])
    clear hbc
    generalize Vb.alloc (.cells #[.int .i64 c1, .int .i64 c2] 23) = Vc at *
    rw [zb] at kc zc
    have hbd := below_new1 Vc (.cells #[.int .i64 d1, .int .i64 d2] 23)
    replace ka := Lib.hid (ka.out.keep hbd)
    replace kb := Lib.hid (kb.out.keep hbd)
    replace kc := Lib.hid (kc.out.keep hbd)
    have zd : (Vc.alloc (.cells #[.int .i64 d1, .int .i64 d2] 23)).heap.size = Vc.heap.size + 1 := by simp
    replace HB := Lib.hid (HB.out.trans (hbd.mono HB.out.size))
    have kd := Lib.hid (Lok.new Vc 23 #[.int .i64 d1, .int .i64 d2])
    clear hbd
    generalize Vc.alloc (.cells #[.int .i64 d1, .int .i64 d2] 23) = Vd at *
    rw [zc] at kd zd
    have hbp := below_new1 Vd (.cells #[.int .i64 p1, .int .i64 p2, .int .i64 p3] 25)
    replace ka := Lib.hid (ka.out.keep hbp)
    replace kb := Lib.hid (kb.out.keep hbp)
    replace kc := Lib.hid (kc.out.keep hbp)
    replace kd := Lib.hid (kd.out.keep hbp)
    have zp : (Vd.alloc (.cells #[.int .i64 p1, .int .i64 p2, .int .i64 p3] 25)).heap.size = Vd.heap.size + 1 := by simp
    replace HB := Lib.hid (HB.out.trans (hbp.mono HB.out.size))
    have kp := Lib.hid (Lok.new Vd 25 #[.int .i64 p1, .int .i64 p2, .int .i64 p3])
    clear hbp
    generalize Vd.alloc (.cells #[.int .i64 p1, .int .i64 p2, .int .i64 p3] 25) = Vp at *
    rw [zd] at kp zp
    have hbq := below_new1 Vp (.cells #[.int .i64 q1, .int .i64 q2, .int .i64 q3] 25)
    replace ka := Lib.hid (ka.out.keep hbq)
    replace kb := Lib.hid (kb.out.keep hbq)
    replace kc := Lib.hid (kc.out.keep hbq)
    replace kd := Lib.hid (kd.out.keep hbq)
    replace kp := Lib.hid (kp.out.keep hbq)
    have zq : (Vp.alloc (.cells #[.int .i64 q1, .int .i64 q2, .int .i64 q3] 25)).heap.size = Vp.heap.size + 1 := by simp
    replace HB := Lib.hid (HB.out.trans (hbq.mono HB.out.size))
    have kq := Lib.hid (Lok.new Vp 25 #[.int .i64 q1, .int .i64 q2, .int .i64 q3])
    clear hbq
    generalize Vp.alloc (.cells #[.int .i64 q1, .int .i64 q2, .int .i64 q3] 25) = Vq at *
    rw [zp] at kq zq
    have hbr := below_new1 Vq (.cells #[.int .i64 r1, .int .i64 r2, .int .i64 r3] 25)
    replace ka := Lib.hid (ka.out.keep hbr)
    replace kb := Lib.hid (kb.out.keep hbr)
    replace kc := Lib.hid (kc.out.keep hbr)
    replace kd := Lib.hid (kd.out.keep hbr)
    replace kp := Lib.hid (kp.out.keep hbr)
    replace kq := Lib.hid (kq.out.keep hbr)
    have zr : (Vq.alloc (.cells #[.int .i64 r1, .int .i64 r2, .int .i64 r3] 25)).heap.size = Vq.heap.size + 1 := by simp
    replace HB := Lib.hid (HB.out.trans (hbr.mono HB.out.size))
    have kr := Lib.hid (Lok.new Vq 25 #[.int .i64 r1, .int .i64 r2, .int .i64 r3])
    clear hbr
    generalize Vq.alloc (.cells #[.int .i64 r1, .int .i64 r2, .int .i64 r3] 25) = Vr at *
    rw [zq] at kr zr
    have hbg := below_new1 Vr (.cells #[.int .i64 g1, .int .i64 g2, .int .i64 g3] 25)
    replace ka := Lib.hid (ka.out.keep hbg)
    replace kb := Lib.hid (kb.out.keep hbg)
    replace kc := Lib.hid (kc.out.keep hbg)
    replace kd := Lib.hid (kd.out.keep hbg)
    replace kp := Lib.hid (kp.out.keep hbg)
    replace kq := Lib.hid (kq.out.keep hbg)
    replace kr := Lib.hid (kr.out.keep hbg)
    have zg : (Vr.alloc (.cells #[.int .i64 g1, .int .i64 g2, .int .i64 g3] 25)).heap.size = Vr.heap.size + 1 := by simp
    replace HB := Lib.hid (HB.out.trans (hbg.mono HB.out.size))
    have kg := Lib.hid (Lok.new Vr 25 #[.int .i64 g1, .int .i64 g2, .int .i64 g3])
    clear hbg
    generalize Vr.alloc (.cells #[.int .i64 g1, .int .i64 g2, .int .i64 g3] 25) = Vg at *
    rw [zr] at kg zg
    have hbt := below_new1 Vg (.cells #[.int .i64 t1, .int .i64 t2, .int .i64 t3] 25)
    replace ka := Lib.hid (ka.out.keep hbt)
    replace kb := Lib.hid (kb.out.keep hbt)
    replace kc := Lib.hid (kc.out.keep hbt)
    replace kd := Lib.hid (kd.out.keep hbt)
    replace kp := Lib.hid (kp.out.keep hbt)
    replace kq := Lib.hid (kq.out.keep hbt)
    replace kr := Lib.hid (kr.out.keep hbt)
    replace kg := Lib.hid (kg.out.keep hbt)
    have zt : (Vg.alloc (.cells #[.int .i64 t1, .int .i64 t2, .int .i64 t3] 25)).heap.size = Vg.heap.size + 1 := by simp
    replace HB := Lib.hid (HB.out.trans (hbt.mono HB.out.size))
    have kt := Lib.hid (Lok.new Vg 25 #[.int .i64 t1, .int .i64 t2, .int .i64 t3])
    clear hbt
    generalize Vg.alloc (.cells #[.int .i64 t1, .int .i64 t2, .int .i64 t3] 25) = Vt at *
    rw [zg] at kt
    clear za zb zc zd zp zq zr zg zt
    have a0 := ka.out.cell (i := 0) rfl
    have a1 := ka.out.cell (i := 1) rfl
    have b0 := kb.out.cell (i := 0) rfl
    have b1 := kb.out.cell (i := 1) rfl
    have c0 := kc.out.cell (i := 0) rfl
    have c1 := kc.out.cell (i := 1) rfl
    have d0 := kd.out.cell (i := 0) rfl
    have d1 := kd.out.cell (i := 1) rfl
    go_wp2_with fail
    clear a0 a1 b0 b1 c0 c1 d0 d1
    have hbm := below_new1 Vt (.cells #[.int .i64 a1, .int .i64 a2, .int .i64 b1, .int .i64 b2, .int .i64 c1, .int .i64 c2, .int .i64 d1, .int .i64 d2] 23)
    replace ka := Lib.hid (ka.out.keep hbm)
    replace kb := Lib.hid (kb.out.keep hbm)
    replace kc := Lib.hid (kc.out.keep hbm)
    replace kd := Lib.hid (kd.out.keep hbm)
    replace kp := Lib.hid (kp.out.keep hbm)
    replace kq := Lib.hid (kq.out.keep hbm)
    replace kr := Lib.hid (kr.out.keep hbm)
    replace kg := Lib.hid (kg.out.keep hbm)
    replace kt := Lib.hid (kt.out.keep hbm)
    have zm : (Vt.alloc (.cells #[.int .i64 a1, .int .i64 a2, .int .i64 b1, .int .i64 b2, .int .i64 c1, .int .i64 c2, .int .i64 d1, .int .i64 d2] 23)).heap.size = Vt.heap.size + 1 := by simp
    replace HB := Lib.hid (HB.out.trans (hbm.mono HB.out.size))
    have km := Lib.hid (Lok.new Vt 23 #[.int .i64 a1, .int .i64 a2, .int .i64 b1, .int .i64 b2, .int .i64 c1, .int .i64 c2, .int .i64 d1, .int .i64 d2])
    clear hbm
    generalize Vt.alloc (.cells #[.int .i64 a1, .int .i64 a2, .int .i64 b1, .int .i64 b2, .int .i64 c1, .int .i64 c2, .int .i64 d1, .int .i64 d2] 23) = Vm at *
    clear zm
    generalize Vt.heap.size = gm at *
    (((with_reducible refine (S2.out _ _ _ km.out).mono ?_); rintro e w1 ⟨rfl, hb1⟩); replace HB := Lib.hid (HB.out.trans (hb1.mono HB.out.size)); replace ka := Lib.hid (ka.out.keep hb1); replace kb := Lib.hid (kb.out.keep hb1); replace kc := Lib.hid (kc.out.keep hb1); replace kd := Lib.hid (kd.out.keep hb1); replace kp := Lib.hid (kp.out.keep hb1); replace kq := Lib.hid (kq.out.keep hb1); replace kr := Lib.hid (kr.out.keep hb1); replace kg := Lib.hid (kg.out.keep hb1); replace kt := Lib.hid (kt.out.keep hb1); clear hb1)
    clear km
    have p0 := kp.out.cell (i := 0) rfl
    have p1 := kp.out.cell (i := 1) rfl
    have p2 := kp.out.cell (i := 2) rfl
    have q0 := kq.out.cell (i := 0) rfl
    have q1 := kq.out.cell (i := 1) rfl
    have q2 := kq.out.cell (i := 2) rfl
    have r0 := kr.out.cell (i := 0) rfl
    have r1 := kr.out.cell (i := 1) rfl
    have r2 := kr.out.cell (i := 2) rfl
    have g0 := kg.out.cell (i := 0) rfl
    have g1 := kg.out.cell (i := 1) rfl
    have g2 := kg.out.cell (i := 2) rfl
    have t0 := kt.out.cell (i := 0) rfl
    have t1 := kt.out.cell (i := 1) rfl
    have t2 := kt.out.cell (i := 2) rfl
    go_wp2_with fail
    clear p0 p1 p2 q0 q1 q2 r0 r1 r2 g0 g1 g2 t0 t1 t2
    have hbn := below_new1 w1 (.cells #[.int .i64 p1, .int .i64 p2, .int .i64 p3, .int .i64 q1, .int .i64 q2, .int .i64 q3, .int .i64 r1, .int .i64 r2, .int .i64 r3, .int .i64 g1, .int .i64 g2, .int .i64 g3, .int .i64 t1, .int .i64 t2, .int .i64 t3] 25)
    replace ka := Lib.hid (ka.out.keep hbn)
    replace kb := Lib.hid (kb.out.keep hbn)
    replace kc := Lib.hid (kc.out.keep hbn)
    replace kd := Lib.hid (kd.out.keep hbn)
    replace kp := Lib.hid (kp.out.keep hbn)
    replace kq := Lib.hid (kq.out.keep hbn)
    replace kr := Lib.hid (kr.out.keep hbn)
    replace kg := Lib.hid (kg.out.keep hbn)
    replace kt := Lib.hid (kt.out.keep hbn)
    have zn : (w1.alloc (.cells #[.int .i64 p1, .int .i64 p2, .int .i64 p3, .int .i64 q1, .int .i64 q2, .int .i64 q3, .int .i64 r1, .int .i64 r2, .int .i64 r3, .int .i64 g1, .int .i64 g2, .int .i64 g3, .int .i64 t1, .int .i64 t2, .int .i64 t3] 25)).heap.size = w1.heap.size + 1 := by simp
    replace HB := Lib.hid (HB.out.trans (hbn.mono HB.out.size))
    have kn := Lib.hid (Lok.new w1 25 #[.int .i64 p1, .int .i64 p2, .int .i64 p3, .int .i64 q1, .int .i64 q2, .int .i64 q3, .int .i64 r1, .int .i64 r2, .int .i64 r3, .int .i64 g1, .int .i64 g2, .int .i64 g3, .int .i64 t1, .int .i64 t2, .int .i64 t3])
    clear hbn
    generalize w1.alloc (.cells #[.int .i64 p1, .int .i64 p2, .int .i64 p3, .int .i64 q1, .int .i64 q2, .int .i64 q3, .int .i64 r1, .int .i64 r2, .int .i64 r3, .int .i64 g1, .int .i64 g2, .int .i64 g3, .int .i64 t1, .int .i64 t2, .int .i64 t3] 25) = Vn at *
    clear zn
    generalize w1.heap.size = gn at *
    (((with_reducible refine (S3.out _ _ _ kn.out).mono ?_); rintro e w2 ⟨rfl, hb2⟩); replace HB := Lib.hid (HB.out.trans (hb2.mono HB.out.size)); replace ka := Lib.hid (ka.out.keep hb2); replace kb := Lib.hid (kb.out.keep hb2); replace kc := Lib.hid (kc.out.keep hb2); replace kd := Lib.hid (kd.out.keep hb2); replace kp := Lib.hid (kp.out.keep hb2); replace kq := Lib.hid (kq.out.keep hb2); replace kr := Lib.hid (kr.out.keep hb2); replace kg := Lib.hid (kg.out.keep hb2); replace kt := Lib.hid (kt.out.keep hb2); clear hb2)
    clear kn
    go_wp2_with fail
    (((with_reducible refine (sided_any _).mono ?_); rintro e w3 ⟨rfl, hb3⟩); replace HB := Lib.hid (HB.out.trans (hb3.mono HB.out.size)); replace ka := Lib.hid (ka.out.keep hb3); replace kb := Lib.hid (kb.out.keep hb3); replace kc := Lib.hid (kc.out.keep hb3); replace kd := Lib.hid (kd.out.keep hb3); replace kp := Lib.hid (kp.out.keep hb3); replace kq := Lib.hid (kq.out.keep hb3); replace kr := Lib.hid (kr.out.keep hb3); replace kg := Lib.hid (kg.out.keep hb3); replace kt := Lib.hid (kt.out.keep hb3); clear hb3)
    go_wp2
    go_ret
    exact ⟨rfl, HB.out⟩
set_option maxRecDepth 100000 in
set_option maxHeartbeats 16000000 in
theorem law_moves_in (a1 a2 b1 b2 c1 c2 d1 d2 p1 p2 p3 q1 q2 q3 r1 r2 r3 g1 g2 g3 t1 t2 t3 x y f v z h : Int) (w : World)
    (S2 : Hid (∀ g T W, Lok W g T #[.int .i64 a1, .int .i64 a2, .int .i64 b1, .int .i64 b2, .int .i64 c1, .int .i64 c2, .int .i64 d1, .int .i64 d2] → Calls Try.prog 19 #[.slice (some ⟨g, 0, none⟩) 4 4] W fun e w' => e = .returned (.bool true) ∧ Below W.heap.size W w'))
    (S3 : Hid (∀ g T W, Lok W g T #[.int .i64 p1, .int .i64 p2, .int .i64 p3, .int .i64 q1, .int .i64 q2, .int .i64 q3, .int .i64 r1, .int .i64 r2, .int .i64 r3, .int .i64 g1, .int .i64 g2, .int .i64 g3, .int .i64 t1, .int .i64 t2, .int .i64 t3] → Calls Try.prog 21 #[.slice (some ⟨g, 0, none⟩) 5 5] W fun e w' => e = .returned (.bool true) ∧ Below W.heap.size W w'))
    (A1 : Hid (∀ W, Calls Try.prog 8 #[.agg #[.int .i64 a1, .int .i64 a2], .agg #[.int .i64 b1, .int .i64 b2], .agg #[.int .i64 c1, .int .i64 c2]] W fun e' w' => e' = .returned (.tuple #[.int .i64 x, .int .i64 0]) ∧ Below W.heap.size W w'))
    (A2 : Hid (∀ W, Calls Try.prog 8 #[.agg #[.int .i64 (a1 + d1), .int .i64 (a2 + d2)], .agg #[.int .i64 (b1 + d1), .int .i64 (b2 + d2)], .agg #[.int .i64 (c1 + d1), .int .i64 (c2 + d2)]] W fun e' w' => e' = .returned (.tuple #[.int .i64 y, .int .i64 f]) ∧ Below W.heap.size W w'))
    (V1 : Hid (∀ W, Calls Try.prog 12 #[.agg #[.int .i64 p1, .int .i64 p2, .int .i64 p3], .agg #[.int .i64 q1, .int .i64 q2, .int .i64 q3], .agg #[.int .i64 r1, .int .i64 r2, .int .i64 r3], .agg #[.int .i64 g1, .int .i64 g2, .int .i64 g3]] W fun e' w' => e' = .returned (.tuple #[.int .i64 v, .int .i64 0]) ∧ Below W.heap.size W w'))
    (V2 : Hid (∀ W, Calls Try.prog 12 #[.agg #[.int .i64 (p1 + t1), .int .i64 (p2 + t2), .int .i64 (p3 + t3)], .agg #[.int .i64 (q1 + t1), .int .i64 (q2 + t2), .int .i64 (q3 + t3)], .agg #[.int .i64 (r1 + t1), .int .i64 (r2 + t2), .int .i64 (r3 + t3)], .agg #[.int .i64 (g1 + t1), .int .i64 (g2 + t2), .int .i64 (g3 + t3)]] W fun e' w' => e' = .returned (.tuple #[.int .i64 z, .int .i64 h]) ∧ Below W.heap.size W w'))
    (e0 : IntKind.i64.wrap (a1 + d1) = a1 + d1)
    (e1 : IntKind.i64.wrap (a2 + d2) = a2 + d2)
    (e2 : IntKind.i64.wrap (b1 + d1) = b1 + d1)
    (e3 : IntKind.i64.wrap (b2 + d2) = b2 + d2)
    (e4 : IntKind.i64.wrap (c1 + d1) = c1 + d1)
    (e5 : IntKind.i64.wrap (c2 + d2) = c2 + d2)
    (e6 : IntKind.i64.wrap (p1 + t1) = p1 + t1)
    (e7 : IntKind.i64.wrap (p2 + t2) = p2 + t2)
    (e8 : IntKind.i64.wrap (p3 + t3) = p3 + t3)
    (e9 : IntKind.i64.wrap (q1 + t1) = q1 + t1)
    (e10 : IntKind.i64.wrap (q2 + t2) = q2 + t2)
    (e11 : IntKind.i64.wrap (q3 + t3) = q3 + t3)
    (e12 : IntKind.i64.wrap (r1 + t1) = r1 + t1)
    (e13 : IntKind.i64.wrap (r2 + t2) = r2 + t2)
    (e14 : IntKind.i64.wrap (r3 + t3) = r3 + t3)
    (e15 : IntKind.i64.wrap (g1 + t1) = g1 + t1)
    (e16 : IntKind.i64.wrap (g2 + t2) = g2 + t2)
    (e17 : IntKind.i64.wrap (g3 + t3) = g3 + t3)
    (hf : f = 5 ∨ (f = 0 ∧ y = x)) (hh : h = 5 ∨ (h = 0 ∧ z = v)) :
    Calls Try.prog 6 #[.agg #[.int .i64 a1, .int .i64 a2], .agg #[.int .i64 b1, .int .i64 b2], .agg #[.int .i64 c1, .int .i64 c2], .agg #[.int .i64 d1, .int .i64 d2], .agg #[.int .i64 p1, .int .i64 p2, .int .i64 p3], .agg #[.int .i64 q1, .int .i64 q2, .int .i64 q3], .agg #[.int .i64 r1, .int .i64 r2, .int .i64 r3], .agg #[.int .i64 g1, .int .i64 g2, .int .i64 g3], .agg #[.int .i64 t1, .int .i64 t2, .int .i64 t3]] w fun e' w' => e' = .returned (.bool true) ∧ Below w.heap.size w w' := by
  have HB := Lib.hid (Below.refl w.heap.size w)
  rcases hf with rfl | ⟨rfl, rfl⟩ <;> rcases hh with rfl | ⟨rfl, rfl⟩
  · go_enter Try.func6, Try.ntmps6
    go_upto_region 1 with fail
    have hba := below_new1 w (.cells #[.int .i64 a1, .int .i64 a2] 23)
    have za : (w.alloc (.cells #[.int .i64 a1, .int .i64 a2] 23)).heap.size = w.heap.size + 1 := by simp
    have HB := Lib.hid hba
    have ka := Lib.hid (Lok.new w 23 #[.int .i64 a1, .int .i64 a2])
    clear hba
    generalize w.alloc (.cells #[.int .i64 a1, .int .i64 a2] 23) = Va at *
    have hbb := below_new1 Va (.cells #[.int .i64 b1, .int .i64 b2] 23)
    replace ka := Lib.hid (ka.out.keep hbb)
    have zb : (Va.alloc (.cells #[.int .i64 b1, .int .i64 b2] 23)).heap.size = Va.heap.size + 1 := by simp
    replace HB := Lib.hid (HB.out.trans (hbb.mono HB.out.size))
    have kb := Lib.hid (Lok.new Va 23 #[.int .i64 b1, .int .i64 b2])
    clear hbb
    generalize Va.alloc (.cells #[.int .i64 b1, .int .i64 b2] 23) = Vb at *
    rw [za] at kb zb
    have hbc := below_new1 Vb (.cells #[.int .i64 c1, .int .i64 c2] 23)
    replace ka := Lib.hid (ka.out.keep hbc)
    replace kb := Lib.hid (kb.out.keep hbc)
    have zc : (Vb.alloc (.cells #[.int .i64 c1, .int .i64 c2] 23)).heap.size = Vb.heap.size + 1 := by simp
    replace HB := Lib.hid (HB.out.trans (hbc.mono HB.out.size))
    have kc := Lib.hid (Lok.new Vb 23 #[.int .i64 c1, .int .i64 c2])
    clear hbc
    generalize Vb.alloc (.cells #[.int .i64 c1, .int .i64 c2] 23) = Vc at *
    rw [zb] at kc zc
    have hbd := below_new1 Vc (.cells #[.int .i64 d1, .int .i64 d2] 23)
    replace ka := Lib.hid (ka.out.keep hbd)
    replace kb := Lib.hid (kb.out.keep hbd)
    replace kc := Lib.hid (kc.out.keep hbd)
    have zd : (Vc.alloc (.cells #[.int .i64 d1, .int .i64 d2] 23)).heap.size = Vc.heap.size + 1 := by simp
    replace HB := Lib.hid (HB.out.trans (hbd.mono HB.out.size))
    have kd := Lib.hid (Lok.new Vc 23 #[.int .i64 d1, .int .i64 d2])
    clear hbd
    generalize Vc.alloc (.cells #[.int .i64 d1, .int .i64 d2] 23) = Vd at *
    rw [zc] at kd zd
    have hbp := below_new1 Vd (.cells #[.int .i64 p1, .int .i64 p2, .int .i64 p3] 25)
    replace ka := Lib.hid (ka.out.keep hbp)
    replace kb := Lib.hid (kb.out.keep hbp)
    replace kc := Lib.hid (kc.out.keep hbp)
    replace kd := Lib.hid (kd.out.keep hbp)
    have zp : (Vd.alloc (.cells #[.int .i64 p1, .int .i64 p2, .int .i64 p3] 25)).heap.size = Vd.heap.size + 1 := by simp
    replace HB := Lib.hid (HB.out.trans (hbp.mono HB.out.size))
    have kp := Lib.hid (Lok.new Vd 25 #[.int .i64 p1, .int .i64 p2, .int .i64 p3])
    clear hbp
    generalize Vd.alloc (.cells #[.int .i64 p1, .int .i64 p2, .int .i64 p3] 25) = Vp at *
    rw [zd] at kp zp
    have hbq := below_new1 Vp (.cells #[.int .i64 q1, .int .i64 q2, .int .i64 q3] 25)
    replace ka := Lib.hid (ka.out.keep hbq)
    replace kb := Lib.hid (kb.out.keep hbq)
    replace kc := Lib.hid (kc.out.keep hbq)
    replace kd := Lib.hid (kd.out.keep hbq)
    replace kp := Lib.hid (kp.out.keep hbq)
    have zq : (Vp.alloc (.cells #[.int .i64 q1, .int .i64 q2, .int .i64 q3] 25)).heap.size = Vp.heap.size + 1 := by simp
    replace HB := Lib.hid (HB.out.trans (hbq.mono HB.out.size))
    have kq := Lib.hid (Lok.new Vp 25 #[.int .i64 q1, .int .i64 q2, .int .i64 q3])
    clear hbq
    generalize Vp.alloc (.cells #[.int .i64 q1, .int .i64 q2, .int .i64 q3] 25) = Vq at *
    rw [zp] at kq zq
    have hbr := below_new1 Vq (.cells #[.int .i64 r1, .int .i64 r2, .int .i64 r3] 25)
    replace ka := Lib.hid (ka.out.keep hbr)
    replace kb := Lib.hid (kb.out.keep hbr)
    replace kc := Lib.hid (kc.out.keep hbr)
    replace kd := Lib.hid (kd.out.keep hbr)
    replace kp := Lib.hid (kp.out.keep hbr)
    replace kq := Lib.hid (kq.out.keep hbr)
    have zr : (Vq.alloc (.cells #[.int .i64 r1, .int .i64 r2, .int .i64 r3] 25)).heap.size = Vq.heap.size + 1 := by simp
    replace HB := Lib.hid (HB.out.trans (hbr.mono HB.out.size))
    have kr := Lib.hid (Lok.new Vq 25 #[.int .i64 r1, .int .i64 r2, .int .i64 r3])
    clear hbr
    generalize Vq.alloc (.cells #[.int .i64 r1, .int .i64 r2, .int .i64 r3] 25) = Vr at *
    rw [zq] at kr zr
    have hbg := below_new1 Vr (.cells #[.int .i64 g1, .int .i64 g2, .int .i64 g3] 25)
    replace ka := Lib.hid (ka.out.keep hbg)
    replace kb := Lib.hid (kb.out.keep hbg)
    replace kc := Lib.hid (kc.out.keep hbg)
    replace kd := Lib.hid (kd.out.keep hbg)
    replace kp := Lib.hid (kp.out.keep hbg)
    replace kq := Lib.hid (kq.out.keep hbg)
    replace kr := Lib.hid (kr.out.keep hbg)
    have zg : (Vr.alloc (.cells #[.int .i64 g1, .int .i64 g2, .int .i64 g3] 25)).heap.size = Vr.heap.size + 1 := by simp
    replace HB := Lib.hid (HB.out.trans (hbg.mono HB.out.size))
    have kg := Lib.hid (Lok.new Vr 25 #[.int .i64 g1, .int .i64 g2, .int .i64 g3])
    clear hbg
    generalize Vr.alloc (.cells #[.int .i64 g1, .int .i64 g2, .int .i64 g3] 25) = Vg at *
    rw [zr] at kg zg
    have hbt := below_new1 Vg (.cells #[.int .i64 t1, .int .i64 t2, .int .i64 t3] 25)
    replace ka := Lib.hid (ka.out.keep hbt)
    replace kb := Lib.hid (kb.out.keep hbt)
    replace kc := Lib.hid (kc.out.keep hbt)
    replace kd := Lib.hid (kd.out.keep hbt)
    replace kp := Lib.hid (kp.out.keep hbt)
    replace kq := Lib.hid (kq.out.keep hbt)
    replace kr := Lib.hid (kr.out.keep hbt)
    replace kg := Lib.hid (kg.out.keep hbt)
    have zt : (Vg.alloc (.cells #[.int .i64 t1, .int .i64 t2, .int .i64 t3] 25)).heap.size = Vg.heap.size + 1 := by simp
    replace HB := Lib.hid (HB.out.trans (hbt.mono HB.out.size))
    have kt := Lib.hid (Lok.new Vg 25 #[.int .i64 t1, .int .i64 t2, .int .i64 t3])
    clear hbt
    generalize Vg.alloc (.cells #[.int .i64 t1, .int .i64 t2, .int .i64 t3] 25) = Vt at *
    rw [zg] at kt
    clear za zb zc zd zp zq zr zg zt
    have a0 := ka.out.cell (i := 0) rfl
    have a1 := ka.out.cell (i := 1) rfl
    have b0 := kb.out.cell (i := 0) rfl
    have b1 := kb.out.cell (i := 1) rfl
    have c0 := kc.out.cell (i := 0) rfl
    have c1 := kc.out.cell (i := 1) rfl
    have d0 := kd.out.cell (i := 0) rfl
    have d1 := kd.out.cell (i := 1) rfl
    go_wp2_with fail
    clear a0 a1 b0 b1 c0 c1 d0 d1
    have hbm := below_new1 Vt (.cells #[.int .i64 a1, .int .i64 a2, .int .i64 b1, .int .i64 b2, .int .i64 c1, .int .i64 c2, .int .i64 d1, .int .i64 d2] 23)
    replace ka := Lib.hid (ka.out.keep hbm)
    replace kb := Lib.hid (kb.out.keep hbm)
    replace kc := Lib.hid (kc.out.keep hbm)
    replace kd := Lib.hid (kd.out.keep hbm)
    replace kp := Lib.hid (kp.out.keep hbm)
    replace kq := Lib.hid (kq.out.keep hbm)
    replace kr := Lib.hid (kr.out.keep hbm)
    replace kg := Lib.hid (kg.out.keep hbm)
    replace kt := Lib.hid (kt.out.keep hbm)
    have zm : (Vt.alloc (.cells #[.int .i64 a1, .int .i64 a2, .int .i64 b1, .int .i64 b2, .int .i64 c1, .int .i64 c2, .int .i64 d1, .int .i64 d2] 23)).heap.size = Vt.heap.size + 1 := by simp
    replace HB := Lib.hid (HB.out.trans (hbm.mono HB.out.size))
    have km := Lib.hid (Lok.new Vt 23 #[.int .i64 a1, .int .i64 a2, .int .i64 b1, .int .i64 b2, .int .i64 c1, .int .i64 c2, .int .i64 d1, .int .i64 d2])
    clear hbm
    generalize Vt.alloc (.cells #[.int .i64 a1, .int .i64 a2, .int .i64 b1, .int .i64 b2, .int .i64 c1, .int .i64 c2, .int .i64 d1, .int .i64 d2] 23) = Vm at *
    clear zm
    generalize Vt.heap.size = gm at *
    (((with_reducible refine (S2.out _ _ _ km.out).mono ?_); rintro e w1 ⟨rfl, hb1⟩); replace HB := Lib.hid (HB.out.trans (hb1.mono HB.out.size)); replace ka := Lib.hid (ka.out.keep hb1); replace kb := Lib.hid (kb.out.keep hb1); replace kc := Lib.hid (kc.out.keep hb1); replace kd := Lib.hid (kd.out.keep hb1); replace kp := Lib.hid (kp.out.keep hb1); replace kq := Lib.hid (kq.out.keep hb1); replace kr := Lib.hid (kr.out.keep hb1); replace kg := Lib.hid (kg.out.keep hb1); replace kt := Lib.hid (kt.out.keep hb1); clear hb1)
    clear km
    have p0 := kp.out.cell (i := 0) rfl
    have p1 := kp.out.cell (i := 1) rfl
    have p2 := kp.out.cell (i := 2) rfl
    have q0 := kq.out.cell (i := 0) rfl
    have q1 := kq.out.cell (i := 1) rfl
    have q2 := kq.out.cell (i := 2) rfl
    have r0 := kr.out.cell (i := 0) rfl
    have r1 := kr.out.cell (i := 1) rfl
    have r2 := kr.out.cell (i := 2) rfl
    have g0 := kg.out.cell (i := 0) rfl
    have g1 := kg.out.cell (i := 1) rfl
    have g2 := kg.out.cell (i := 2) rfl
    have t0 := kt.out.cell (i := 0) rfl
    have t1 := kt.out.cell (i := 1) rfl
    have t2 := kt.out.cell (i := 2) rfl
    go_wp2_with fail
    clear p0 p1 p2 q0 q1 q2 r0 r1 r2 g0 g1 g2 t0 t1 t2
    have hbn := below_new1 w1 (.cells #[.int .i64 p1, .int .i64 p2, .int .i64 p3, .int .i64 q1, .int .i64 q2, .int .i64 q3, .int .i64 r1, .int .i64 r2, .int .i64 r3, .int .i64 g1, .int .i64 g2, .int .i64 g3, .int .i64 t1, .int .i64 t2, .int .i64 t3] 25)
    replace ka := Lib.hid (ka.out.keep hbn)
    replace kb := Lib.hid (kb.out.keep hbn)
    replace kc := Lib.hid (kc.out.keep hbn)
    replace kd := Lib.hid (kd.out.keep hbn)
    replace kp := Lib.hid (kp.out.keep hbn)
    replace kq := Lib.hid (kq.out.keep hbn)
    replace kr := Lib.hid (kr.out.keep hbn)
    replace kg := Lib.hid (kg.out.keep hbn)
    replace kt := Lib.hid (kt.out.keep hbn)
    have zn : (w1.alloc (.cells #[.int .i64 p1, .int .i64 p2, .int .i64 p3, .int .i64 q1, .int .i64 q2, .int .i64 q3, .int .i64 r1, .int .i64 r2, .int .i64 r3, .int .i64 g1, .int .i64 g2, .int .i64 g3, .int .i64 t1, .int .i64 t2, .int .i64 t3] 25)).heap.size = w1.heap.size + 1 := by simp
    replace HB := Lib.hid (HB.out.trans (hbn.mono HB.out.size))
    have kn := Lib.hid (Lok.new w1 25 #[.int .i64 p1, .int .i64 p2, .int .i64 p3, .int .i64 q1, .int .i64 q2, .int .i64 q3, .int .i64 r1, .int .i64 r2, .int .i64 r3, .int .i64 g1, .int .i64 g2, .int .i64 g3, .int .i64 t1, .int .i64 t2, .int .i64 t3])
    clear hbn
    generalize w1.alloc (.cells #[.int .i64 p1, .int .i64 p2, .int .i64 p3, .int .i64 q1, .int .i64 q2, .int .i64 q3, .int .i64 r1, .int .i64 r2, .int .i64 r3, .int .i64 g1, .int .i64 g2, .int .i64 g3, .int .i64 t1, .int .i64 t2, .int .i64 t3] 25) = Vn at *
    clear zn
    generalize w1.heap.size = gn at *
    (((with_reducible refine (S3.out _ _ _ kn.out).mono ?_); rintro e w2 ⟨rfl, hb2⟩); replace HB := Lib.hid (HB.out.trans (hb2.mono HB.out.size)); replace ka := Lib.hid (ka.out.keep hb2); replace kb := Lib.hid (kb.out.keep hb2); replace kc := Lib.hid (kc.out.keep hb2); replace kd := Lib.hid (kd.out.keep hb2); replace kp := Lib.hid (kp.out.keep hb2); replace kq := Lib.hid (kq.out.keep hb2); replace kr := Lib.hid (kr.out.keep hb2); replace kg := Lib.hid (kg.out.keep hb2); replace kt := Lib.hid (kt.out.keep hb2); clear hb2)
    clear kn
    clear S2 S3
    have a0 := ka.out.cell (i := 0) rfl
    have a1 := ka.out.cell (i := 1) rfl
    have b0 := kb.out.cell (i := 0) rfl
    have b1 := kb.out.cell (i := 1) rfl
    have c0 := kc.out.cell (i := 0) rfl
    have c1 := kc.out.cell (i := 1) rfl
    go_wp2_with fail
    clear a0 a1 b0 b1 c0 c1
    (((with_reducible refine (A1.out _).mono ?_); rintro e w3 ⟨rfl, hb3⟩); replace HB := Lib.hid (HB.out.trans (hb3.mono HB.out.size)); replace ka := Lib.hid (ka.out.keep hb3); replace kb := Lib.hid (kb.out.keep hb3); replace kc := Lib.hid (kc.out.keep hb3); replace kd := Lib.hid (kd.out.keep hb3); replace kp := Lib.hid (kp.out.keep hb3); replace kq := Lib.hid (kq.out.keep hb3); replace kr := Lib.hid (kr.out.keep hb3); replace kg := Lib.hid (kg.out.keep hb3); replace kt := Lib.hid (kt.out.keep hb3); clear hb3)
    have a0 := ka.out.cell (i := 0) rfl
    have a1 := ka.out.cell (i := 1) rfl
    have b0 := kb.out.cell (i := 0) rfl
    have b1 := kb.out.cell (i := 1) rfl
    have c0 := kc.out.cell (i := 0) rfl
    have c1 := kc.out.cell (i := 1) rfl
    have d0 := kd.out.cell (i := 0) rfl
    have d1 := kd.out.cell (i := 1) rfl
    go_wp2_with fail
    clear a0 a1 b0 b1 c0 c1 d0 d1
    (((with_reducible refine (A2.out _).mono ?_); rintro e w4 ⟨rfl, hb4⟩); replace HB := Lib.hid (HB.out.trans (hb4.mono HB.out.size)); replace ka := Lib.hid (ka.out.keep hb4); replace kb := Lib.hid (kb.out.keep hb4); replace kc := Lib.hid (kc.out.keep hb4); replace kd := Lib.hid (kd.out.keep hb4); replace kp := Lib.hid (kp.out.keep hb4); replace kq := Lib.hid (kq.out.keep hb4); replace kr := Lib.hid (kr.out.keep hb4); replace kg := Lib.hid (kg.out.keep hb4); replace kt := Lib.hid (kt.out.keep hb4); clear hb4)
    clear A1 A2 e0 e1 e2 e3 e4 e5
    have p0 := kp.out.cell (i := 0) rfl
    have p1 := kp.out.cell (i := 1) rfl
    have p2 := kp.out.cell (i := 2) rfl
    have q0 := kq.out.cell (i := 0) rfl
    have q1 := kq.out.cell (i := 1) rfl
    have q2 := kq.out.cell (i := 2) rfl
    have r0 := kr.out.cell (i := 0) rfl
    have r1 := kr.out.cell (i := 1) rfl
    have r2 := kr.out.cell (i := 2) rfl
    have g0 := kg.out.cell (i := 0) rfl
    have g1 := kg.out.cell (i := 1) rfl
    have g2 := kg.out.cell (i := 2) rfl
    go_wp2_with fail
    clear p0 p1 p2 q0 q1 q2 r0 r1 r2 g0 g1 g2
    (((with_reducible refine (V1.out _).mono ?_); rintro e w5 ⟨rfl, hb5⟩); replace HB := Lib.hid (HB.out.trans (hb5.mono HB.out.size)); replace kp := Lib.hid (kp.out.keep hb5); replace kq := Lib.hid (kq.out.keep hb5); replace kr := Lib.hid (kr.out.keep hb5); replace kg := Lib.hid (kg.out.keep hb5); replace kt := Lib.hid (kt.out.keep hb5); clear hb5)
    have p0 := kp.out.cell (i := 0) rfl
    have p1 := kp.out.cell (i := 1) rfl
    have p2 := kp.out.cell (i := 2) rfl
    have q0 := kq.out.cell (i := 0) rfl
    have q1 := kq.out.cell (i := 1) rfl
    have q2 := kq.out.cell (i := 2) rfl
    have r0 := kr.out.cell (i := 0) rfl
    have r1 := kr.out.cell (i := 1) rfl
    have r2 := kr.out.cell (i := 2) rfl
    have g0 := kg.out.cell (i := 0) rfl
    have g1 := kg.out.cell (i := 1) rfl
    have g2 := kg.out.cell (i := 2) rfl
    have t0 := kt.out.cell (i := 0) rfl
    have t1 := kt.out.cell (i := 1) rfl
    have t2 := kt.out.cell (i := 2) rfl
    go_wp2_with fail
    clear p0 p1 p2 q0 q1 q2 r0 r1 r2 g0 g1 g2 t0 t1 t2
    (((with_reducible refine (V2.out _).mono ?_); rintro e w6 ⟨rfl, hb6⟩); replace HB := Lib.hid (HB.out.trans (hb6.mono HB.out.size)); replace kp := Lib.hid (kp.out.keep hb6); replace kq := Lib.hid (kq.out.keep hb6); replace kr := Lib.hid (kr.out.keep hb6); replace kg := Lib.hid (kg.out.keep hb6); replace kt := Lib.hid (kt.out.keep hb6); clear hb6)
    clear V1 V2 e6 e7 e8 e9 e10 e11 e12 e13 e14 e15 e16 e17
    go_wp2_with fail
    (((with_reducible refine (sided_any _).mono ?_); rintro e w7 ⟨rfl, hb7⟩); replace HB := Lib.hid (HB.out.trans (hb7.mono HB.out.size)); clear hb7)
    go_wp2
    go_ret
    exact ⟨rfl, HB.out⟩
  · go_enter Try.func6, Try.ntmps6
    go_upto_region 1 with fail
    have hba := below_new1 w (.cells #[.int .i64 a1, .int .i64 a2] 23)
    have za : (w.alloc (.cells #[.int .i64 a1, .int .i64 a2] 23)).heap.size = w.heap.size + 1 := by simp
    have HB := Lib.hid hba
    have ka := Lib.hid (Lok.new w 23 #[.int .i64 a1, .int .i64 a2])
    clear hba
    generalize w.alloc (.cells #[.int .i64 a1, .int .i64 a2] 23) = Va at *
    have hbb := below_new1 Va (.cells #[.int .i64 b1, .int .i64 b2] 23)
    replace ka := Lib.hid (ka.out.keep hbb)
    have zb : (Va.alloc (.cells #[.int .i64 b1, .int .i64 b2] 23)).heap.size = Va.heap.size + 1 := by simp
    replace HB := Lib.hid (HB.out.trans (hbb.mono HB.out.size))
    have kb := Lib.hid (Lok.new Va 23 #[.int .i64 b1, .int .i64 b2])
    clear hbb
    generalize Va.alloc (.cells #[.int .i64 b1, .int .i64 b2] 23) = Vb at *
    rw [za] at kb zb
    have hbc := below_new1 Vb (.cells #[.int .i64 c1, .int .i64 c2] 23)
    replace ka := Lib.hid (ka.out.keep hbc)
    replace kb := Lib.hid (kb.out.keep hbc)
    have zc : (Vb.alloc (.cells #[.int .i64 c1, .int .i64 c2] 23)).heap.size = Vb.heap.size + 1 := by simp
    replace HB := Lib.hid (HB.out.trans (hbc.mono HB.out.size))
    have kc := Lib.hid (Lok.new Vb 23 #[.int .i64 c1, .int .i64 c2])
    clear hbc
    generalize Vb.alloc (.cells #[.int .i64 c1, .int .i64 c2] 23) = Vc at *
    rw [zb] at kc zc
    have hbd := below_new1 Vc (.cells #[.int .i64 d1, .int .i64 d2] 23)
    replace ka := Lib.hid (ka.out.keep hbd)
    replace kb := Lib.hid (kb.out.keep hbd)
    replace kc := Lib.hid (kc.out.keep hbd)
    have zd : (Vc.alloc (.cells #[.int .i64 d1, .int .i64 d2] 23)).heap.size = Vc.heap.size + 1 := by simp
    replace HB := Lib.hid (HB.out.trans (hbd.mono HB.out.size))
    have kd := Lib.hid (Lok.new Vc 23 #[.int .i64 d1, .int .i64 d2])
    clear hbd
    generalize Vc.alloc (.cells #[.int .i64 d1, .int .i64 d2] 23) = Vd at *
    rw [zc] at kd zd
    have hbp := below_new1 Vd (.cells #[.int .i64 p1, .int .i64 p2, .int .i64 p3] 25)
    replace ka := Lib.hid (ka.out.keep hbp)
    replace kb := Lib.hid (kb.out.keep hbp)
    replace kc := Lib.hid (kc.out.keep hbp)
    replace kd := Lib.hid (kd.out.keep hbp)
    have zp : (Vd.alloc (.cells #[.int .i64 p1, .int .i64 p2, .int .i64 p3] 25)).heap.size = Vd.heap.size + 1 := by simp
    replace HB := Lib.hid (HB.out.trans (hbp.mono HB.out.size))
    have kp := Lib.hid (Lok.new Vd 25 #[.int .i64 p1, .int .i64 p2, .int .i64 p3])
    clear hbp
    generalize Vd.alloc (.cells #[.int .i64 p1, .int .i64 p2, .int .i64 p3] 25) = Vp at *
    rw [zd] at kp zp
    have hbq := below_new1 Vp (.cells #[.int .i64 q1, .int .i64 q2, .int .i64 q3] 25)
    replace ka := Lib.hid (ka.out.keep hbq)
    replace kb := Lib.hid (kb.out.keep hbq)
    replace kc := Lib.hid (kc.out.keep hbq)
    replace kd := Lib.hid (kd.out.keep hbq)
    replace kp := Lib.hid (kp.out.keep hbq)
    have zq : (Vp.alloc (.cells #[.int .i64 q1, .int .i64 q2, .int .i64 q3] 25)).heap.size = Vp.heap.size + 1 := by simp
    replace HB := Lib.hid (HB.out.trans (hbq.mono HB.out.size))
    have kq := Lib.hid (Lok.new Vp 25 #[.int .i64 q1, .int .i64 q2, .int .i64 q3])
    clear hbq
    generalize Vp.alloc (.cells #[.int .i64 q1, .int .i64 q2, .int .i64 q3] 25) = Vq at *
    rw [zp] at kq zq
    have hbr := below_new1 Vq (.cells #[.int .i64 r1, .int .i64 r2, .int .i64 r3] 25)
    replace ka := Lib.hid (ka.out.keep hbr)
    replace kb := Lib.hid (kb.out.keep hbr)
    replace kc := Lib.hid (kc.out.keep hbr)
    replace kd := Lib.hid (kd.out.keep hbr)
    replace kp := Lib.hid (kp.out.keep hbr)
    replace kq := Lib.hid (kq.out.keep hbr)
    have zr : (Vq.alloc (.cells #[.int .i64 r1, .int .i64 r2, .int .i64 r3] 25)).heap.size = Vq.heap.size + 1 := by simp
    replace HB := Lib.hid (HB.out.trans (hbr.mono HB.out.size))
    have kr := Lib.hid (Lok.new Vq 25 #[.int .i64 r1, .int .i64 r2, .int .i64 r3])
    clear hbr
    generalize Vq.alloc (.cells #[.int .i64 r1, .int .i64 r2, .int .i64 r3] 25) = Vr at *
    rw [zq] at kr zr
    have hbg := below_new1 Vr (.cells #[.int .i64 g1, .int .i64 g2, .int .i64 g3] 25)
    replace ka := Lib.hid (ka.out.keep hbg)
    replace kb := Lib.hid (kb.out.keep hbg)
    replace kc := Lib.hid (kc.out.keep hbg)
    replace kd := Lib.hid (kd.out.keep hbg)
    replace kp := Lib.hid (kp.out.keep hbg)
    replace kq := Lib.hid (kq.out.keep hbg)
    replace kr := Lib.hid (kr.out.keep hbg)
    have zg : (Vr.alloc (.cells #[.int .i64 g1, .int .i64 g2, .int .i64 g3] 25)).heap.size = Vr.heap.size + 1 := by simp
    replace HB := Lib.hid (HB.out.trans (hbg.mono HB.out.size))
    have kg := Lib.hid (Lok.new Vr 25 #[.int .i64 g1, .int .i64 g2, .int .i64 g3])
    clear hbg
    generalize Vr.alloc (.cells #[.int .i64 g1, .int .i64 g2, .int .i64 g3] 25) = Vg at *
    rw [zr] at kg zg
    have hbt := below_new1 Vg (.cells #[.int .i64 t1, .int .i64 t2, .int .i64 t3] 25)
    replace ka := Lib.hid (ka.out.keep hbt)
    replace kb := Lib.hid (kb.out.keep hbt)
    replace kc := Lib.hid (kc.out.keep hbt)
    replace kd := Lib.hid (kd.out.keep hbt)
    replace kp := Lib.hid (kp.out.keep hbt)
    replace kq := Lib.hid (kq.out.keep hbt)
    replace kr := Lib.hid (kr.out.keep hbt)
    replace kg := Lib.hid (kg.out.keep hbt)
    have zt : (Vg.alloc (.cells #[.int .i64 t1, .int .i64 t2, .int .i64 t3] 25)).heap.size = Vg.heap.size + 1 := by simp
    replace HB := Lib.hid (HB.out.trans (hbt.mono HB.out.size))
    have kt := Lib.hid (Lok.new Vg 25 #[.int .i64 t1, .int .i64 t2, .int .i64 t3])
    clear hbt
    generalize Vg.alloc (.cells #[.int .i64 t1, .int .i64 t2, .int .i64 t3] 25) = Vt at *
    rw [zg] at kt
    clear za zb zc zd zp zq zr zg zt
    have a0 := ka.out.cell (i := 0) rfl
    have a1 := ka.out.cell (i := 1) rfl
    have b0 := kb.out.cell (i := 0) rfl
    have b1 := kb.out.cell (i := 1) rfl
    have c0 := kc.out.cell (i := 0) rfl
    have c1 := kc.out.cell (i := 1) rfl
    have d0 := kd.out.cell (i := 0) rfl
    have d1 := kd.out.cell (i := 1) rfl
    go_wp2_with fail
    clear a0 a1 b0 b1 c0 c1 d0 d1
    have hbm := below_new1 Vt (.cells #[.int .i64 a1, .int .i64 a2, .int .i64 b1, .int .i64 b2, .int .i64 c1, .int .i64 c2, .int .i64 d1, .int .i64 d2] 23)
    replace ka := Lib.hid (ka.out.keep hbm)
    replace kb := Lib.hid (kb.out.keep hbm)
    replace kc := Lib.hid (kc.out.keep hbm)
    replace kd := Lib.hid (kd.out.keep hbm)
    replace kp := Lib.hid (kp.out.keep hbm)
    replace kq := Lib.hid (kq.out.keep hbm)
    replace kr := Lib.hid (kr.out.keep hbm)
    replace kg := Lib.hid (kg.out.keep hbm)
    replace kt := Lib.hid (kt.out.keep hbm)
    have zm : (Vt.alloc (.cells #[.int .i64 a1, .int .i64 a2, .int .i64 b1, .int .i64 b2, .int .i64 c1, .int .i64 c2, .int .i64 d1, .int .i64 d2] 23)).heap.size = Vt.heap.size + 1 := by simp
    replace HB := Lib.hid (HB.out.trans (hbm.mono HB.out.size))
    have km := Lib.hid (Lok.new Vt 23 #[.int .i64 a1, .int .i64 a2, .int .i64 b1, .int .i64 b2, .int .i64 c1, .int .i64 c2, .int .i64 d1, .int .i64 d2])
    clear hbm
    generalize Vt.alloc (.cells #[.int .i64 a1, .int .i64 a2, .int .i64 b1, .int .i64 b2, .int .i64 c1, .int .i64 c2, .int .i64 d1, .int .i64 d2] 23) = Vm at *
    clear zm
    generalize Vt.heap.size = gm at *
    (((with_reducible refine (S2.out _ _ _ km.out).mono ?_); rintro e w1 ⟨rfl, hb1⟩); replace HB := Lib.hid (HB.out.trans (hb1.mono HB.out.size)); replace ka := Lib.hid (ka.out.keep hb1); replace kb := Lib.hid (kb.out.keep hb1); replace kc := Lib.hid (kc.out.keep hb1); replace kd := Lib.hid (kd.out.keep hb1); replace kp := Lib.hid (kp.out.keep hb1); replace kq := Lib.hid (kq.out.keep hb1); replace kr := Lib.hid (kr.out.keep hb1); replace kg := Lib.hid (kg.out.keep hb1); replace kt := Lib.hid (kt.out.keep hb1); clear hb1)
    clear km
    have p0 := kp.out.cell (i := 0) rfl
    have p1 := kp.out.cell (i := 1) rfl
    have p2 := kp.out.cell (i := 2) rfl
    have q0 := kq.out.cell (i := 0) rfl
    have q1 := kq.out.cell (i := 1) rfl
    have q2 := kq.out.cell (i := 2) rfl
    have r0 := kr.out.cell (i := 0) rfl
    have r1 := kr.out.cell (i := 1) rfl
    have r2 := kr.out.cell (i := 2) rfl
    have g0 := kg.out.cell (i := 0) rfl
    have g1 := kg.out.cell (i := 1) rfl
    have g2 := kg.out.cell (i := 2) rfl
    have t0 := kt.out.cell (i := 0) rfl
    have t1 := kt.out.cell (i := 1) rfl
    have t2 := kt.out.cell (i := 2) rfl
    go_wp2_with fail
    clear p0 p1 p2 q0 q1 q2 r0 r1 r2 g0 g1 g2 t0 t1 t2
    have hbn := below_new1 w1 (.cells #[.int .i64 p1, .int .i64 p2, .int .i64 p3, .int .i64 q1, .int .i64 q2, .int .i64 q3, .int .i64 r1, .int .i64 r2, .int .i64 r3, .int .i64 g1, .int .i64 g2, .int .i64 g3, .int .i64 t1, .int .i64 t2, .int .i64 t3] 25)
    replace ka := Lib.hid (ka.out.keep hbn)
    replace kb := Lib.hid (kb.out.keep hbn)
    replace kc := Lib.hid (kc.out.keep hbn)
    replace kd := Lib.hid (kd.out.keep hbn)
    replace kp := Lib.hid (kp.out.keep hbn)
    replace kq := Lib.hid (kq.out.keep hbn)
    replace kr := Lib.hid (kr.out.keep hbn)
    replace kg := Lib.hid (kg.out.keep hbn)
    replace kt := Lib.hid (kt.out.keep hbn)
    have zn : (w1.alloc (.cells #[.int .i64 p1, .int .i64 p2, .int .i64 p3, .int .i64 q1, .int .i64 q2, .int .i64 q3, .int .i64 r1, .int .i64 r2, .int .i64 r3, .int .i64 g1, .int .i64 g2, .int .i64 g3, .int .i64 t1, .int .i64 t2, .int .i64 t3] 25)).heap.size = w1.heap.size + 1 := by simp
    replace HB := Lib.hid (HB.out.trans (hbn.mono HB.out.size))
    have kn := Lib.hid (Lok.new w1 25 #[.int .i64 p1, .int .i64 p2, .int .i64 p3, .int .i64 q1, .int .i64 q2, .int .i64 q3, .int .i64 r1, .int .i64 r2, .int .i64 r3, .int .i64 g1, .int .i64 g2, .int .i64 g3, .int .i64 t1, .int .i64 t2, .int .i64 t3])
    clear hbn
    generalize w1.alloc (.cells #[.int .i64 p1, .int .i64 p2, .int .i64 p3, .int .i64 q1, .int .i64 q2, .int .i64 q3, .int .i64 r1, .int .i64 r2, .int .i64 r3, .int .i64 g1, .int .i64 g2, .int .i64 g3, .int .i64 t1, .int .i64 t2, .int .i64 t3] 25) = Vn at *
    clear zn
    generalize w1.heap.size = gn at *
    (((with_reducible refine (S3.out _ _ _ kn.out).mono ?_); rintro e w2 ⟨rfl, hb2⟩); replace HB := Lib.hid (HB.out.trans (hb2.mono HB.out.size)); replace ka := Lib.hid (ka.out.keep hb2); replace kb := Lib.hid (kb.out.keep hb2); replace kc := Lib.hid (kc.out.keep hb2); replace kd := Lib.hid (kd.out.keep hb2); replace kp := Lib.hid (kp.out.keep hb2); replace kq := Lib.hid (kq.out.keep hb2); replace kr := Lib.hid (kr.out.keep hb2); replace kg := Lib.hid (kg.out.keep hb2); replace kt := Lib.hid (kt.out.keep hb2); clear hb2)
    clear kn
    clear S2 S3
    have a0 := ka.out.cell (i := 0) rfl
    have a1 := ka.out.cell (i := 1) rfl
    have b0 := kb.out.cell (i := 0) rfl
    have b1 := kb.out.cell (i := 1) rfl
    have c0 := kc.out.cell (i := 0) rfl
    have c1 := kc.out.cell (i := 1) rfl
    go_wp2_with fail
    clear a0 a1 b0 b1 c0 c1
    (((with_reducible refine (A1.out _).mono ?_); rintro e w3 ⟨rfl, hb3⟩); replace HB := Lib.hid (HB.out.trans (hb3.mono HB.out.size)); replace ka := Lib.hid (ka.out.keep hb3); replace kb := Lib.hid (kb.out.keep hb3); replace kc := Lib.hid (kc.out.keep hb3); replace kd := Lib.hid (kd.out.keep hb3); replace kp := Lib.hid (kp.out.keep hb3); replace kq := Lib.hid (kq.out.keep hb3); replace kr := Lib.hid (kr.out.keep hb3); replace kg := Lib.hid (kg.out.keep hb3); replace kt := Lib.hid (kt.out.keep hb3); clear hb3)
    have a0 := ka.out.cell (i := 0) rfl
    have a1 := ka.out.cell (i := 1) rfl
    have b0 := kb.out.cell (i := 0) rfl
    have b1 := kb.out.cell (i := 1) rfl
    have c0 := kc.out.cell (i := 0) rfl
    have c1 := kc.out.cell (i := 1) rfl
    have d0 := kd.out.cell (i := 0) rfl
    have d1 := kd.out.cell (i := 1) rfl
    go_wp2_with fail
    clear a0 a1 b0 b1 c0 c1 d0 d1
    (((with_reducible refine (A2.out _).mono ?_); rintro e w4 ⟨rfl, hb4⟩); replace HB := Lib.hid (HB.out.trans (hb4.mono HB.out.size)); replace ka := Lib.hid (ka.out.keep hb4); replace kb := Lib.hid (kb.out.keep hb4); replace kc := Lib.hid (kc.out.keep hb4); replace kd := Lib.hid (kd.out.keep hb4); replace kp := Lib.hid (kp.out.keep hb4); replace kq := Lib.hid (kq.out.keep hb4); replace kr := Lib.hid (kr.out.keep hb4); replace kg := Lib.hid (kg.out.keep hb4); replace kt := Lib.hid (kt.out.keep hb4); clear hb4)
    clear A1 A2 e0 e1 e2 e3 e4 e5
    have p0 := kp.out.cell (i := 0) rfl
    have p1 := kp.out.cell (i := 1) rfl
    have p2 := kp.out.cell (i := 2) rfl
    have q0 := kq.out.cell (i := 0) rfl
    have q1 := kq.out.cell (i := 1) rfl
    have q2 := kq.out.cell (i := 2) rfl
    have r0 := kr.out.cell (i := 0) rfl
    have r1 := kr.out.cell (i := 1) rfl
    have r2 := kr.out.cell (i := 2) rfl
    have g0 := kg.out.cell (i := 0) rfl
    have g1 := kg.out.cell (i := 1) rfl
    have g2 := kg.out.cell (i := 2) rfl
    go_wp2_with fail
    clear p0 p1 p2 q0 q1 q2 r0 r1 r2 g0 g1 g2
    (((with_reducible refine (V1.out _).mono ?_); rintro e w5 ⟨rfl, hb5⟩); replace HB := Lib.hid (HB.out.trans (hb5.mono HB.out.size)); replace kp := Lib.hid (kp.out.keep hb5); replace kq := Lib.hid (kq.out.keep hb5); replace kr := Lib.hid (kr.out.keep hb5); replace kg := Lib.hid (kg.out.keep hb5); replace kt := Lib.hid (kt.out.keep hb5); clear hb5)
    have p0 := kp.out.cell (i := 0) rfl
    have p1 := kp.out.cell (i := 1) rfl
    have p2 := kp.out.cell (i := 2) rfl
    have q0 := kq.out.cell (i := 0) rfl
    have q1 := kq.out.cell (i := 1) rfl
    have q2 := kq.out.cell (i := 2) rfl
    have r0 := kr.out.cell (i := 0) rfl
    have r1 := kr.out.cell (i := 1) rfl
    have r2 := kr.out.cell (i := 2) rfl
    have g0 := kg.out.cell (i := 0) rfl
    have g1 := kg.out.cell (i := 1) rfl
    have g2 := kg.out.cell (i := 2) rfl
    have t0 := kt.out.cell (i := 0) rfl
    have t1 := kt.out.cell (i := 1) rfl
    have t2 := kt.out.cell (i := 2) rfl
    go_wp2_with fail
    clear p0 p1 p2 q0 q1 q2 r0 r1 r2 g0 g1 g2 t0 t1 t2
    (((with_reducible refine (V2.out _).mono ?_); rintro e w6 ⟨rfl, hb6⟩); replace HB := Lib.hid (HB.out.trans (hb6.mono HB.out.size)); replace kp := Lib.hid (kp.out.keep hb6); replace kq := Lib.hid (kq.out.keep hb6); replace kr := Lib.hid (kr.out.keep hb6); replace kg := Lib.hid (kg.out.keep hb6); replace kt := Lib.hid (kt.out.keep hb6); clear hb6)
    clear V1 V2 e6 e7 e8 e9 e10 e11 e12 e13 e14 e15 e16 e17
    go_wp2_with fail
    (((with_reducible refine (sided_any _).mono ?_); rintro e w7 ⟨rfl, hb7⟩); replace HB := Lib.hid (HB.out.trans (hb7.mono HB.out.size)); clear hb7)
    go_wp2
    go_ret
    exact ⟨rfl, HB.out⟩
  · go_enter Try.func6, Try.ntmps6
    go_upto_region 1 with fail
    have hba := below_new1 w (.cells #[.int .i64 a1, .int .i64 a2] 23)
    have za : (w.alloc (.cells #[.int .i64 a1, .int .i64 a2] 23)).heap.size = w.heap.size + 1 := by simp
    have HB := Lib.hid hba
    have ka := Lib.hid (Lok.new w 23 #[.int .i64 a1, .int .i64 a2])
    clear hba
    generalize w.alloc (.cells #[.int .i64 a1, .int .i64 a2] 23) = Va at *
    have hbb := below_new1 Va (.cells #[.int .i64 b1, .int .i64 b2] 23)
    replace ka := Lib.hid (ka.out.keep hbb)
    have zb : (Va.alloc (.cells #[.int .i64 b1, .int .i64 b2] 23)).heap.size = Va.heap.size + 1 := by simp
    replace HB := Lib.hid (HB.out.trans (hbb.mono HB.out.size))
    have kb := Lib.hid (Lok.new Va 23 #[.int .i64 b1, .int .i64 b2])
    clear hbb
    generalize Va.alloc (.cells #[.int .i64 b1, .int .i64 b2] 23) = Vb at *
    rw [za] at kb zb
    have hbc := below_new1 Vb (.cells #[.int .i64 c1, .int .i64 c2] 23)
    replace ka := Lib.hid (ka.out.keep hbc)
    replace kb := Lib.hid (kb.out.keep hbc)
    have zc : (Vb.alloc (.cells #[.int .i64 c1, .int .i64 c2] 23)).heap.size = Vb.heap.size + 1 := by simp
    replace HB := Lib.hid (HB.out.trans (hbc.mono HB.out.size))
    have kc := Lib.hid (Lok.new Vb 23 #[.int .i64 c1, .int .i64 c2])
    clear hbc
    generalize Vb.alloc (.cells #[.int .i64 c1, .int .i64 c2] 23) = Vc at *
    rw [zb] at kc zc
    have hbd := below_new1 Vc (.cells #[.int .i64 d1, .int .i64 d2] 23)
    replace ka := Lib.hid (ka.out.keep hbd)
    replace kb := Lib.hid (kb.out.keep hbd)
    replace kc := Lib.hid (kc.out.keep hbd)
    have zd : (Vc.alloc (.cells #[.int .i64 d1, .int .i64 d2] 23)).heap.size = Vc.heap.size + 1 := by simp
    replace HB := Lib.hid (HB.out.trans (hbd.mono HB.out.size))
    have kd := Lib.hid (Lok.new Vc 23 #[.int .i64 d1, .int .i64 d2])
    clear hbd
    generalize Vc.alloc (.cells #[.int .i64 d1, .int .i64 d2] 23) = Vd at *
    rw [zc] at kd zd
    have hbp := below_new1 Vd (.cells #[.int .i64 p1, .int .i64 p2, .int .i64 p3] 25)
    replace ka := Lib.hid (ka.out.keep hbp)
    replace kb := Lib.hid (kb.out.keep hbp)
    replace kc := Lib.hid (kc.out.keep hbp)
    replace kd := Lib.hid (kd.out.keep hbp)
    have zp : (Vd.alloc (.cells #[.int .i64 p1, .int .i64 p2, .int .i64 p3] 25)).heap.size = Vd.heap.size + 1 := by simp
    replace HB := Lib.hid (HB.out.trans (hbp.mono HB.out.size))
    have kp := Lib.hid (Lok.new Vd 25 #[.int .i64 p1, .int .i64 p2, .int .i64 p3])
    clear hbp
    generalize Vd.alloc (.cells #[.int .i64 p1, .int .i64 p2, .int .i64 p3] 25) = Vp at *
    rw [zd] at kp zp
    have hbq := below_new1 Vp (.cells #[.int .i64 q1, .int .i64 q2, .int .i64 q3] 25)
    replace ka := Lib.hid (ka.out.keep hbq)
    replace kb := Lib.hid (kb.out.keep hbq)
    replace kc := Lib.hid (kc.out.keep hbq)
    replace kd := Lib.hid (kd.out.keep hbq)
    replace kp := Lib.hid (kp.out.keep hbq)
    have zq : (Vp.alloc (.cells #[.int .i64 q1, .int .i64 q2, .int .i64 q3] 25)).heap.size = Vp.heap.size + 1 := by simp
    replace HB := Lib.hid (HB.out.trans (hbq.mono HB.out.size))
    have kq := Lib.hid (Lok.new Vp 25 #[.int .i64 q1, .int .i64 q2, .int .i64 q3])
    clear hbq
    generalize Vp.alloc (.cells #[.int .i64 q1, .int .i64 q2, .int .i64 q3] 25) = Vq at *
    rw [zp] at kq zq
    have hbr := below_new1 Vq (.cells #[.int .i64 r1, .int .i64 r2, .int .i64 r3] 25)
    replace ka := Lib.hid (ka.out.keep hbr)
    replace kb := Lib.hid (kb.out.keep hbr)
    replace kc := Lib.hid (kc.out.keep hbr)
    replace kd := Lib.hid (kd.out.keep hbr)
    replace kp := Lib.hid (kp.out.keep hbr)
    replace kq := Lib.hid (kq.out.keep hbr)
    have zr : (Vq.alloc (.cells #[.int .i64 r1, .int .i64 r2, .int .i64 r3] 25)).heap.size = Vq.heap.size + 1 := by simp
    replace HB := Lib.hid (HB.out.trans (hbr.mono HB.out.size))
    have kr := Lib.hid (Lok.new Vq 25 #[.int .i64 r1, .int .i64 r2, .int .i64 r3])
    clear hbr
    generalize Vq.alloc (.cells #[.int .i64 r1, .int .i64 r2, .int .i64 r3] 25) = Vr at *
    rw [zq] at kr zr
    have hbg := below_new1 Vr (.cells #[.int .i64 g1, .int .i64 g2, .int .i64 g3] 25)
    replace ka := Lib.hid (ka.out.keep hbg)
    replace kb := Lib.hid (kb.out.keep hbg)
    replace kc := Lib.hid (kc.out.keep hbg)
    replace kd := Lib.hid (kd.out.keep hbg)
    replace kp := Lib.hid (kp.out.keep hbg)
    replace kq := Lib.hid (kq.out.keep hbg)
    replace kr := Lib.hid (kr.out.keep hbg)
    have zg : (Vr.alloc (.cells #[.int .i64 g1, .int .i64 g2, .int .i64 g3] 25)).heap.size = Vr.heap.size + 1 := by simp
    replace HB := Lib.hid (HB.out.trans (hbg.mono HB.out.size))
    have kg := Lib.hid (Lok.new Vr 25 #[.int .i64 g1, .int .i64 g2, .int .i64 g3])
    clear hbg
    generalize Vr.alloc (.cells #[.int .i64 g1, .int .i64 g2, .int .i64 g3] 25) = Vg at *
    rw [zr] at kg zg
    have hbt := below_new1 Vg (.cells #[.int .i64 t1, .int .i64 t2, .int .i64 t3] 25)
    replace ka := Lib.hid (ka.out.keep hbt)
    replace kb := Lib.hid (kb.out.keep hbt)
    replace kc := Lib.hid (kc.out.keep hbt)
    replace kd := Lib.hid (kd.out.keep hbt)
    replace kp := Lib.hid (kp.out.keep hbt)
    replace kq := Lib.hid (kq.out.keep hbt)
    replace kr := Lib.hid (kr.out.keep hbt)
    replace kg := Lib.hid (kg.out.keep hbt)
    have zt : (Vg.alloc (.cells #[.int .i64 t1, .int .i64 t2, .int .i64 t3] 25)).heap.size = Vg.heap.size + 1 := by simp
    replace HB := Lib.hid (HB.out.trans (hbt.mono HB.out.size))
    have kt := Lib.hid (Lok.new Vg 25 #[.int .i64 t1, .int .i64 t2, .int .i64 t3])
    clear hbt
    generalize Vg.alloc (.cells #[.int .i64 t1, .int .i64 t2, .int .i64 t3] 25) = Vt at *
    rw [zg] at kt
    clear za zb zc zd zp zq zr zg zt
    have a0 := ka.out.cell (i := 0) rfl
    have a1 := ka.out.cell (i := 1) rfl
    have b0 := kb.out.cell (i := 0) rfl
    have b1 := kb.out.cell (i := 1) rfl
    have c0 := kc.out.cell (i := 0) rfl
    have c1 := kc.out.cell (i := 1) rfl
    have d0 := kd.out.cell (i := 0) rfl
    have d1 := kd.out.cell (i := 1) rfl
    go_wp2_with fail
    clear a0 a1 b0 b1 c0 c1 d0 d1
    have hbm := below_new1 Vt (.cells #[.int .i64 a1, .int .i64 a2, .int .i64 b1, .int .i64 b2, .int .i64 c1, .int .i64 c2, .int .i64 d1, .int .i64 d2] 23)
    replace ka := Lib.hid (ka.out.keep hbm)
    replace kb := Lib.hid (kb.out.keep hbm)
    replace kc := Lib.hid (kc.out.keep hbm)
    replace kd := Lib.hid (kd.out.keep hbm)
    replace kp := Lib.hid (kp.out.keep hbm)
    replace kq := Lib.hid (kq.out.keep hbm)
    replace kr := Lib.hid (kr.out.keep hbm)
    replace kg := Lib.hid (kg.out.keep hbm)
    replace kt := Lib.hid (kt.out.keep hbm)
    have zm : (Vt.alloc (.cells #[.int .i64 a1, .int .i64 a2, .int .i64 b1, .int .i64 b2, .int .i64 c1, .int .i64 c2, .int .i64 d1, .int .i64 d2] 23)).heap.size = Vt.heap.size + 1 := by simp
    replace HB := Lib.hid (HB.out.trans (hbm.mono HB.out.size))
    have km := Lib.hid (Lok.new Vt 23 #[.int .i64 a1, .int .i64 a2, .int .i64 b1, .int .i64 b2, .int .i64 c1, .int .i64 c2, .int .i64 d1, .int .i64 d2])
    clear hbm
    generalize Vt.alloc (.cells #[.int .i64 a1, .int .i64 a2, .int .i64 b1, .int .i64 b2, .int .i64 c1, .int .i64 c2, .int .i64 d1, .int .i64 d2] 23) = Vm at *
    clear zm
    generalize Vt.heap.size = gm at *
    (((with_reducible refine (S2.out _ _ _ km.out).mono ?_); rintro e w1 ⟨rfl, hb1⟩); replace HB := Lib.hid (HB.out.trans (hb1.mono HB.out.size)); replace ka := Lib.hid (ka.out.keep hb1); replace kb := Lib.hid (kb.out.keep hb1); replace kc := Lib.hid (kc.out.keep hb1); replace kd := Lib.hid (kd.out.keep hb1); replace kp := Lib.hid (kp.out.keep hb1); replace kq := Lib.hid (kq.out.keep hb1); replace kr := Lib.hid (kr.out.keep hb1); replace kg := Lib.hid (kg.out.keep hb1); replace kt := Lib.hid (kt.out.keep hb1); clear hb1)
    clear km
    have p0 := kp.out.cell (i := 0) rfl
    have p1 := kp.out.cell (i := 1) rfl
    have p2 := kp.out.cell (i := 2) rfl
    have q0 := kq.out.cell (i := 0) rfl
    have q1 := kq.out.cell (i := 1) rfl
    have q2 := kq.out.cell (i := 2) rfl
    have r0 := kr.out.cell (i := 0) rfl
    have r1 := kr.out.cell (i := 1) rfl
    have r2 := kr.out.cell (i := 2) rfl
    have g0 := kg.out.cell (i := 0) rfl
    have g1 := kg.out.cell (i := 1) rfl
    have g2 := kg.out.cell (i := 2) rfl
    have t0 := kt.out.cell (i := 0) rfl
    have t1 := kt.out.cell (i := 1) rfl
    have t2 := kt.out.cell (i := 2) rfl
    go_wp2_with fail
    clear p0 p1 p2 q0 q1 q2 r0 r1 r2 g0 g1 g2 t0 t1 t2
    have hbn := below_new1 w1 (.cells #[.int .i64 p1, .int .i64 p2, .int .i64 p3, .int .i64 q1, .int .i64 q2, .int .i64 q3, .int .i64 r1, .int .i64 r2, .int .i64 r3, .int .i64 g1, .int .i64 g2, .int .i64 g3, .int .i64 t1, .int .i64 t2, .int .i64 t3] 25)
    replace ka := Lib.hid (ka.out.keep hbn)
    replace kb := Lib.hid (kb.out.keep hbn)
    replace kc := Lib.hid (kc.out.keep hbn)
    replace kd := Lib.hid (kd.out.keep hbn)
    replace kp := Lib.hid (kp.out.keep hbn)
    replace kq := Lib.hid (kq.out.keep hbn)
    replace kr := Lib.hid (kr.out.keep hbn)
    replace kg := Lib.hid (kg.out.keep hbn)
    replace kt := Lib.hid (kt.out.keep hbn)
    have zn : (w1.alloc (.cells #[.int .i64 p1, .int .i64 p2, .int .i64 p3, .int .i64 q1, .int .i64 q2, .int .i64 q3, .int .i64 r1, .int .i64 r2, .int .i64 r3, .int .i64 g1, .int .i64 g2, .int .i64 g3, .int .i64 t1, .int .i64 t2, .int .i64 t3] 25)).heap.size = w1.heap.size + 1 := by simp
    replace HB := Lib.hid (HB.out.trans (hbn.mono HB.out.size))
    have kn := Lib.hid (Lok.new w1 25 #[.int .i64 p1, .int .i64 p2, .int .i64 p3, .int .i64 q1, .int .i64 q2, .int .i64 q3, .int .i64 r1, .int .i64 r2, .int .i64 r3, .int .i64 g1, .int .i64 g2, .int .i64 g3, .int .i64 t1, .int .i64 t2, .int .i64 t3])
    clear hbn
    generalize w1.alloc (.cells #[.int .i64 p1, .int .i64 p2, .int .i64 p3, .int .i64 q1, .int .i64 q2, .int .i64 q3, .int .i64 r1, .int .i64 r2, .int .i64 r3, .int .i64 g1, .int .i64 g2, .int .i64 g3, .int .i64 t1, .int .i64 t2, .int .i64 t3] 25) = Vn at *
    clear zn
    generalize w1.heap.size = gn at *
    (((with_reducible refine (S3.out _ _ _ kn.out).mono ?_); rintro e w2 ⟨rfl, hb2⟩); replace HB := Lib.hid (HB.out.trans (hb2.mono HB.out.size)); replace ka := Lib.hid (ka.out.keep hb2); replace kb := Lib.hid (kb.out.keep hb2); replace kc := Lib.hid (kc.out.keep hb2); replace kd := Lib.hid (kd.out.keep hb2); replace kp := Lib.hid (kp.out.keep hb2); replace kq := Lib.hid (kq.out.keep hb2); replace kr := Lib.hid (kr.out.keep hb2); replace kg := Lib.hid (kg.out.keep hb2); replace kt := Lib.hid (kt.out.keep hb2); clear hb2)
    clear kn
    clear S2 S3
    have a0 := ka.out.cell (i := 0) rfl
    have a1 := ka.out.cell (i := 1) rfl
    have b0 := kb.out.cell (i := 0) rfl
    have b1 := kb.out.cell (i := 1) rfl
    have c0 := kc.out.cell (i := 0) rfl
    have c1 := kc.out.cell (i := 1) rfl
    go_wp2_with fail
    clear a0 a1 b0 b1 c0 c1
    (((with_reducible refine (A1.out _).mono ?_); rintro e w3 ⟨rfl, hb3⟩); replace HB := Lib.hid (HB.out.trans (hb3.mono HB.out.size)); replace ka := Lib.hid (ka.out.keep hb3); replace kb := Lib.hid (kb.out.keep hb3); replace kc := Lib.hid (kc.out.keep hb3); replace kd := Lib.hid (kd.out.keep hb3); replace kp := Lib.hid (kp.out.keep hb3); replace kq := Lib.hid (kq.out.keep hb3); replace kr := Lib.hid (kr.out.keep hb3); replace kg := Lib.hid (kg.out.keep hb3); replace kt := Lib.hid (kt.out.keep hb3); clear hb3)
    have a0 := ka.out.cell (i := 0) rfl
    have a1 := ka.out.cell (i := 1) rfl
    have b0 := kb.out.cell (i := 0) rfl
    have b1 := kb.out.cell (i := 1) rfl
    have c0 := kc.out.cell (i := 0) rfl
    have c1 := kc.out.cell (i := 1) rfl
    have d0 := kd.out.cell (i := 0) rfl
    have d1 := kd.out.cell (i := 1) rfl
    go_wp2_with fail
    clear a0 a1 b0 b1 c0 c1 d0 d1
    (((with_reducible refine (A2.out _).mono ?_); rintro e w4 ⟨rfl, hb4⟩); replace HB := Lib.hid (HB.out.trans (hb4.mono HB.out.size)); replace ka := Lib.hid (ka.out.keep hb4); replace kb := Lib.hid (kb.out.keep hb4); replace kc := Lib.hid (kc.out.keep hb4); replace kd := Lib.hid (kd.out.keep hb4); replace kp := Lib.hid (kp.out.keep hb4); replace kq := Lib.hid (kq.out.keep hb4); replace kr := Lib.hid (kr.out.keep hb4); replace kg := Lib.hid (kg.out.keep hb4); replace kt := Lib.hid (kt.out.keep hb4); clear hb4)
    clear A1 A2 e0 e1 e2 e3 e4 e5
    have p0 := kp.out.cell (i := 0) rfl
    have p1 := kp.out.cell (i := 1) rfl
    have p2 := kp.out.cell (i := 2) rfl
    have q0 := kq.out.cell (i := 0) rfl
    have q1 := kq.out.cell (i := 1) rfl
    have q2 := kq.out.cell (i := 2) rfl
    have r0 := kr.out.cell (i := 0) rfl
    have r1 := kr.out.cell (i := 1) rfl
    have r2 := kr.out.cell (i := 2) rfl
    have g0 := kg.out.cell (i := 0) rfl
    have g1 := kg.out.cell (i := 1) rfl
    have g2 := kg.out.cell (i := 2) rfl
    go_wp2_with fail
    clear p0 p1 p2 q0 q1 q2 r0 r1 r2 g0 g1 g2
    (((with_reducible refine (V1.out _).mono ?_); rintro e w5 ⟨rfl, hb5⟩); replace HB := Lib.hid (HB.out.trans (hb5.mono HB.out.size)); replace kp := Lib.hid (kp.out.keep hb5); replace kq := Lib.hid (kq.out.keep hb5); replace kr := Lib.hid (kr.out.keep hb5); replace kg := Lib.hid (kg.out.keep hb5); replace kt := Lib.hid (kt.out.keep hb5); clear hb5)
    have p0 := kp.out.cell (i := 0) rfl
    have p1 := kp.out.cell (i := 1) rfl
    have p2 := kp.out.cell (i := 2) rfl
    have q0 := kq.out.cell (i := 0) rfl
    have q1 := kq.out.cell (i := 1) rfl
    have q2 := kq.out.cell (i := 2) rfl
    have r0 := kr.out.cell (i := 0) rfl
    have r1 := kr.out.cell (i := 1) rfl
    have r2 := kr.out.cell (i := 2) rfl
    have g0 := kg.out.cell (i := 0) rfl
    have g1 := kg.out.cell (i := 1) rfl
    have g2 := kg.out.cell (i := 2) rfl
    have t0 := kt.out.cell (i := 0) rfl
    have t1 := kt.out.cell (i := 1) rfl
    have t2 := kt.out.cell (i := 2) rfl
    go_wp2_with fail
    clear p0 p1 p2 q0 q1 q2 r0 r1 r2 g0 g1 g2 t0 t1 t2
    (((with_reducible refine (V2.out _).mono ?_); rintro e w6 ⟨rfl, hb6⟩); replace HB := Lib.hid (HB.out.trans (hb6.mono HB.out.size)); replace kp := Lib.hid (kp.out.keep hb6); replace kq := Lib.hid (kq.out.keep hb6); replace kr := Lib.hid (kr.out.keep hb6); replace kg := Lib.hid (kg.out.keep hb6); replace kt := Lib.hid (kt.out.keep hb6); clear hb6)
    clear V1 V2 e6 e7 e8 e9 e10 e11 e12 e13 e14 e15 e16 e17
    go_wp2_with fail
    (((with_reducible refine (sided_any _).mono ?_); rintro e w7 ⟨rfl, hb7⟩); replace HB := Lib.hid (HB.out.trans (hb7.mono HB.out.size)); clear hb7)
    go_wp2
    go_ret
    exact ⟨rfl, HB.out⟩
  · go_enter Try.func6, Try.ntmps6
    go_upto_region 1 with fail
    have hba := below_new1 w (.cells #[.int .i64 a1, .int .i64 a2] 23)
    have za : (w.alloc (.cells #[.int .i64 a1, .int .i64 a2] 23)).heap.size = w.heap.size + 1 := by simp
    have HB := Lib.hid hba
    have ka := Lib.hid (Lok.new w 23 #[.int .i64 a1, .int .i64 a2])
    clear hba
    generalize w.alloc (.cells #[.int .i64 a1, .int .i64 a2] 23) = Va at *
    have hbb := below_new1 Va (.cells #[.int .i64 b1, .int .i64 b2] 23)
    replace ka := Lib.hid (ka.out.keep hbb)
    have zb : (Va.alloc (.cells #[.int .i64 b1, .int .i64 b2] 23)).heap.size = Va.heap.size + 1 := by simp
    replace HB := Lib.hid (HB.out.trans (hbb.mono HB.out.size))
    have kb := Lib.hid (Lok.new Va 23 #[.int .i64 b1, .int .i64 b2])
    clear hbb
    generalize Va.alloc (.cells #[.int .i64 b1, .int .i64 b2] 23) = Vb at *
    rw [za] at kb zb
    have hbc := below_new1 Vb (.cells #[.int .i64 c1, .int .i64 c2] 23)
    replace ka := Lib.hid (ka.out.keep hbc)
    replace kb := Lib.hid (kb.out.keep hbc)
    have zc : (Vb.alloc (.cells #[.int .i64 c1, .int .i64 c2] 23)).heap.size = Vb.heap.size + 1 := by simp
    replace HB := Lib.hid (HB.out.trans (hbc.mono HB.out.size))
    have kc := Lib.hid (Lok.new Vb 23 #[.int .i64 c1, .int .i64 c2])
    clear hbc
    generalize Vb.alloc (.cells #[.int .i64 c1, .int .i64 c2] 23) = Vc at *
    rw [zb] at kc zc
    have hbd := below_new1 Vc (.cells #[.int .i64 d1, .int .i64 d2] 23)
    replace ka := Lib.hid (ka.out.keep hbd)
    replace kb := Lib.hid (kb.out.keep hbd)
    replace kc := Lib.hid (kc.out.keep hbd)
    have zd : (Vc.alloc (.cells #[.int .i64 d1, .int .i64 d2] 23)).heap.size = Vc.heap.size + 1 := by simp
    replace HB := Lib.hid (HB.out.trans (hbd.mono HB.out.size))
    have kd := Lib.hid (Lok.new Vc 23 #[.int .i64 d1, .int .i64 d2])
    clear hbd
    generalize Vc.alloc (.cells #[.int .i64 d1, .int .i64 d2] 23) = Vd at *
    rw [zc] at kd zd
    have hbp := below_new1 Vd (.cells #[.int .i64 p1, .int .i64 p2, .int .i64 p3] 25)
    replace ka := Lib.hid (ka.out.keep hbp)
    replace kb := Lib.hid (kb.out.keep hbp)
    replace kc := Lib.hid (kc.out.keep hbp)
    replace kd := Lib.hid (kd.out.keep hbp)
    have zp : (Vd.alloc (.cells #[.int .i64 p1, .int .i64 p2, .int .i64 p3] 25)).heap.size = Vd.heap.size + 1 := by simp
    replace HB := Lib.hid (HB.out.trans (hbp.mono HB.out.size))
    have kp := Lib.hid (Lok.new Vd 25 #[.int .i64 p1, .int .i64 p2, .int .i64 p3])
    clear hbp
    generalize Vd.alloc (.cells #[.int .i64 p1, .int .i64 p2, .int .i64 p3] 25) = Vp at *
    rw [zd] at kp zp
    have hbq := below_new1 Vp (.cells #[.int .i64 q1, .int .i64 q2, .int .i64 q3] 25)
    replace ka := Lib.hid (ka.out.keep hbq)
    replace kb := Lib.hid (kb.out.keep hbq)
    replace kc := Lib.hid (kc.out.keep hbq)
    replace kd := Lib.hid (kd.out.keep hbq)
    replace kp := Lib.hid (kp.out.keep hbq)
    have zq : (Vp.alloc (.cells #[.int .i64 q1, .int .i64 q2, .int .i64 q3] 25)).heap.size = Vp.heap.size + 1 := by simp
    replace HB := Lib.hid (HB.out.trans (hbq.mono HB.out.size))
    have kq := Lib.hid (Lok.new Vp 25 #[.int .i64 q1, .int .i64 q2, .int .i64 q3])
    clear hbq
    generalize Vp.alloc (.cells #[.int .i64 q1, .int .i64 q2, .int .i64 q3] 25) = Vq at *
    rw [zp] at kq zq
    have hbr := below_new1 Vq (.cells #[.int .i64 r1, .int .i64 r2, .int .i64 r3] 25)
    replace ka := Lib.hid (ka.out.keep hbr)
    replace kb := Lib.hid (kb.out.keep hbr)
    replace kc := Lib.hid (kc.out.keep hbr)
    replace kd := Lib.hid (kd.out.keep hbr)
    replace kp := Lib.hid (kp.out.keep hbr)
    replace kq := Lib.hid (kq.out.keep hbr)
    have zr : (Vq.alloc (.cells #[.int .i64 r1, .int .i64 r2, .int .i64 r3] 25)).heap.size = Vq.heap.size + 1 := by simp
    replace HB := Lib.hid (HB.out.trans (hbr.mono HB.out.size))
    have kr := Lib.hid (Lok.new Vq 25 #[.int .i64 r1, .int .i64 r2, .int .i64 r3])
    clear hbr
    generalize Vq.alloc (.cells #[.int .i64 r1, .int .i64 r2, .int .i64 r3] 25) = Vr at *
    rw [zq] at kr zr
    have hbg := below_new1 Vr (.cells #[.int .i64 g1, .int .i64 g2, .int .i64 g3] 25)
    replace ka := Lib.hid (ka.out.keep hbg)
    replace kb := Lib.hid (kb.out.keep hbg)
    replace kc := Lib.hid (kc.out.keep hbg)
    replace kd := Lib.hid (kd.out.keep hbg)
    replace kp := Lib.hid (kp.out.keep hbg)
    replace kq := Lib.hid (kq.out.keep hbg)
    replace kr := Lib.hid (kr.out.keep hbg)
    have zg : (Vr.alloc (.cells #[.int .i64 g1, .int .i64 g2, .int .i64 g3] 25)).heap.size = Vr.heap.size + 1 := by simp
    replace HB := Lib.hid (HB.out.trans (hbg.mono HB.out.size))
    have kg := Lib.hid (Lok.new Vr 25 #[.int .i64 g1, .int .i64 g2, .int .i64 g3])
    clear hbg
    generalize Vr.alloc (.cells #[.int .i64 g1, .int .i64 g2, .int .i64 g3] 25) = Vg at *
    rw [zr] at kg zg
    have hbt := below_new1 Vg (.cells #[.int .i64 t1, .int .i64 t2, .int .i64 t3] 25)
    replace ka := Lib.hid (ka.out.keep hbt)
    replace kb := Lib.hid (kb.out.keep hbt)
    replace kc := Lib.hid (kc.out.keep hbt)
    replace kd := Lib.hid (kd.out.keep hbt)
    replace kp := Lib.hid (kp.out.keep hbt)
    replace kq := Lib.hid (kq.out.keep hbt)
    replace kr := Lib.hid (kr.out.keep hbt)
    replace kg := Lib.hid (kg.out.keep hbt)
    have zt : (Vg.alloc (.cells #[.int .i64 t1, .int .i64 t2, .int .i64 t3] 25)).heap.size = Vg.heap.size + 1 := by simp
    replace HB := Lib.hid (HB.out.trans (hbt.mono HB.out.size))
    have kt := Lib.hid (Lok.new Vg 25 #[.int .i64 t1, .int .i64 t2, .int .i64 t3])
    clear hbt
    generalize Vg.alloc (.cells #[.int .i64 t1, .int .i64 t2, .int .i64 t3] 25) = Vt at *
    rw [zg] at kt
    clear za zb zc zd zp zq zr zg zt
    have a0 := ka.out.cell (i := 0) rfl
    have a1 := ka.out.cell (i := 1) rfl
    have b0 := kb.out.cell (i := 0) rfl
    have b1 := kb.out.cell (i := 1) rfl
    have c0 := kc.out.cell (i := 0) rfl
    have c1 := kc.out.cell (i := 1) rfl
    have d0 := kd.out.cell (i := 0) rfl
    have d1 := kd.out.cell (i := 1) rfl
    go_wp2_with fail
    clear a0 a1 b0 b1 c0 c1 d0 d1
    have hbm := below_new1 Vt (.cells #[.int .i64 a1, .int .i64 a2, .int .i64 b1, .int .i64 b2, .int .i64 c1, .int .i64 c2, .int .i64 d1, .int .i64 d2] 23)
    replace ka := Lib.hid (ka.out.keep hbm)
    replace kb := Lib.hid (kb.out.keep hbm)
    replace kc := Lib.hid (kc.out.keep hbm)
    replace kd := Lib.hid (kd.out.keep hbm)
    replace kp := Lib.hid (kp.out.keep hbm)
    replace kq := Lib.hid (kq.out.keep hbm)
    replace kr := Lib.hid (kr.out.keep hbm)
    replace kg := Lib.hid (kg.out.keep hbm)
    replace kt := Lib.hid (kt.out.keep hbm)
    have zm : (Vt.alloc (.cells #[.int .i64 a1, .int .i64 a2, .int .i64 b1, .int .i64 b2, .int .i64 c1, .int .i64 c2, .int .i64 d1, .int .i64 d2] 23)).heap.size = Vt.heap.size + 1 := by simp
    replace HB := Lib.hid (HB.out.trans (hbm.mono HB.out.size))
    have km := Lib.hid (Lok.new Vt 23 #[.int .i64 a1, .int .i64 a2, .int .i64 b1, .int .i64 b2, .int .i64 c1, .int .i64 c2, .int .i64 d1, .int .i64 d2])
    clear hbm
    generalize Vt.alloc (.cells #[.int .i64 a1, .int .i64 a2, .int .i64 b1, .int .i64 b2, .int .i64 c1, .int .i64 c2, .int .i64 d1, .int .i64 d2] 23) = Vm at *
    clear zm
    generalize Vt.heap.size = gm at *
    (((with_reducible refine (S2.out _ _ _ km.out).mono ?_); rintro e w1 ⟨rfl, hb1⟩); replace HB := Lib.hid (HB.out.trans (hb1.mono HB.out.size)); replace ka := Lib.hid (ka.out.keep hb1); replace kb := Lib.hid (kb.out.keep hb1); replace kc := Lib.hid (kc.out.keep hb1); replace kd := Lib.hid (kd.out.keep hb1); replace kp := Lib.hid (kp.out.keep hb1); replace kq := Lib.hid (kq.out.keep hb1); replace kr := Lib.hid (kr.out.keep hb1); replace kg := Lib.hid (kg.out.keep hb1); replace kt := Lib.hid (kt.out.keep hb1); clear hb1)
    clear km
    have p0 := kp.out.cell (i := 0) rfl
    have p1 := kp.out.cell (i := 1) rfl
    have p2 := kp.out.cell (i := 2) rfl
    have q0 := kq.out.cell (i := 0) rfl
    have q1 := kq.out.cell (i := 1) rfl
    have q2 := kq.out.cell (i := 2) rfl
    have r0 := kr.out.cell (i := 0) rfl
    have r1 := kr.out.cell (i := 1) rfl
    have r2 := kr.out.cell (i := 2) rfl
    have g0 := kg.out.cell (i := 0) rfl
    have g1 := kg.out.cell (i := 1) rfl
    have g2 := kg.out.cell (i := 2) rfl
    have t0 := kt.out.cell (i := 0) rfl
    have t1 := kt.out.cell (i := 1) rfl
    have t2 := kt.out.cell (i := 2) rfl
    go_wp2_with fail
    clear p0 p1 p2 q0 q1 q2 r0 r1 r2 g0 g1 g2 t0 t1 t2
    have hbn := below_new1 w1 (.cells #[.int .i64 p1, .int .i64 p2, .int .i64 p3, .int .i64 q1, .int .i64 q2, .int .i64 q3, .int .i64 r1, .int .i64 r2, .int .i64 r3, .int .i64 g1, .int .i64 g2, .int .i64 g3, .int .i64 t1, .int .i64 t2, .int .i64 t3] 25)
    replace ka := Lib.hid (ka.out.keep hbn)
    replace kb := Lib.hid (kb.out.keep hbn)
    replace kc := Lib.hid (kc.out.keep hbn)
    replace kd := Lib.hid (kd.out.keep hbn)
    replace kp := Lib.hid (kp.out.keep hbn)
    replace kq := Lib.hid (kq.out.keep hbn)
    replace kr := Lib.hid (kr.out.keep hbn)
    replace kg := Lib.hid (kg.out.keep hbn)
    replace kt := Lib.hid (kt.out.keep hbn)
    have zn : (w1.alloc (.cells #[.int .i64 p1, .int .i64 p2, .int .i64 p3, .int .i64 q1, .int .i64 q2, .int .i64 q3, .int .i64 r1, .int .i64 r2, .int .i64 r3, .int .i64 g1, .int .i64 g2, .int .i64 g3, .int .i64 t1, .int .i64 t2, .int .i64 t3] 25)).heap.size = w1.heap.size + 1 := by simp
    replace HB := Lib.hid (HB.out.trans (hbn.mono HB.out.size))
    have kn := Lib.hid (Lok.new w1 25 #[.int .i64 p1, .int .i64 p2, .int .i64 p3, .int .i64 q1, .int .i64 q2, .int .i64 q3, .int .i64 r1, .int .i64 r2, .int .i64 r3, .int .i64 g1, .int .i64 g2, .int .i64 g3, .int .i64 t1, .int .i64 t2, .int .i64 t3])
    clear hbn
    generalize w1.alloc (.cells #[.int .i64 p1, .int .i64 p2, .int .i64 p3, .int .i64 q1, .int .i64 q2, .int .i64 q3, .int .i64 r1, .int .i64 r2, .int .i64 r3, .int .i64 g1, .int .i64 g2, .int .i64 g3, .int .i64 t1, .int .i64 t2, .int .i64 t3] 25) = Vn at *
    clear zn
    generalize w1.heap.size = gn at *
    (((with_reducible refine (S3.out _ _ _ kn.out).mono ?_); rintro e w2 ⟨rfl, hb2⟩); replace HB := Lib.hid (HB.out.trans (hb2.mono HB.out.size)); replace ka := Lib.hid (ka.out.keep hb2); replace kb := Lib.hid (kb.out.keep hb2); replace kc := Lib.hid (kc.out.keep hb2); replace kd := Lib.hid (kd.out.keep hb2); replace kp := Lib.hid (kp.out.keep hb2); replace kq := Lib.hid (kq.out.keep hb2); replace kr := Lib.hid (kr.out.keep hb2); replace kg := Lib.hid (kg.out.keep hb2); replace kt := Lib.hid (kt.out.keep hb2); clear hb2)
    clear kn
    clear S2 S3
    have a0 := ka.out.cell (i := 0) rfl
    have a1 := ka.out.cell (i := 1) rfl
    have b0 := kb.out.cell (i := 0) rfl
    have b1 := kb.out.cell (i := 1) rfl
    have c0 := kc.out.cell (i := 0) rfl
    have c1 := kc.out.cell (i := 1) rfl
    go_wp2_with fail
    clear a0 a1 b0 b1 c0 c1
    (((with_reducible refine (A1.out _).mono ?_); rintro e w3 ⟨rfl, hb3⟩); replace HB := Lib.hid (HB.out.trans (hb3.mono HB.out.size)); replace ka := Lib.hid (ka.out.keep hb3); replace kb := Lib.hid (kb.out.keep hb3); replace kc := Lib.hid (kc.out.keep hb3); replace kd := Lib.hid (kd.out.keep hb3); replace kp := Lib.hid (kp.out.keep hb3); replace kq := Lib.hid (kq.out.keep hb3); replace kr := Lib.hid (kr.out.keep hb3); replace kg := Lib.hid (kg.out.keep hb3); replace kt := Lib.hid (kt.out.keep hb3); clear hb3)
    have a0 := ka.out.cell (i := 0) rfl
    have a1 := ka.out.cell (i := 1) rfl
    have b0 := kb.out.cell (i := 0) rfl
    have b1 := kb.out.cell (i := 1) rfl
    have c0 := kc.out.cell (i := 0) rfl
    have c1 := kc.out.cell (i := 1) rfl
    have d0 := kd.out.cell (i := 0) rfl
    have d1 := kd.out.cell (i := 1) rfl
    go_wp2_with fail
    clear a0 a1 b0 b1 c0 c1 d0 d1
    (((with_reducible refine (A2.out _).mono ?_); rintro e w4 ⟨rfl, hb4⟩); replace HB := Lib.hid (HB.out.trans (hb4.mono HB.out.size)); replace ka := Lib.hid (ka.out.keep hb4); replace kb := Lib.hid (kb.out.keep hb4); replace kc := Lib.hid (kc.out.keep hb4); replace kd := Lib.hid (kd.out.keep hb4); replace kp := Lib.hid (kp.out.keep hb4); replace kq := Lib.hid (kq.out.keep hb4); replace kr := Lib.hid (kr.out.keep hb4); replace kg := Lib.hid (kg.out.keep hb4); replace kt := Lib.hid (kt.out.keep hb4); clear hb4)
    clear A1 A2 e0 e1 e2 e3 e4 e5
    have p0 := kp.out.cell (i := 0) rfl
    have p1 := kp.out.cell (i := 1) rfl
    have p2 := kp.out.cell (i := 2) rfl
    have q0 := kq.out.cell (i := 0) rfl
    have q1 := kq.out.cell (i := 1) rfl
    have q2 := kq.out.cell (i := 2) rfl
    have r0 := kr.out.cell (i := 0) rfl
    have r1 := kr.out.cell (i := 1) rfl
    have r2 := kr.out.cell (i := 2) rfl
    have g0 := kg.out.cell (i := 0) rfl
    have g1 := kg.out.cell (i := 1) rfl
    have g2 := kg.out.cell (i := 2) rfl
    go_wp2_with fail
    clear p0 p1 p2 q0 q1 q2 r0 r1 r2 g0 g1 g2
    (((with_reducible refine (V1.out _).mono ?_); rintro e w5 ⟨rfl, hb5⟩); replace HB := Lib.hid (HB.out.trans (hb5.mono HB.out.size)); replace kp := Lib.hid (kp.out.keep hb5); replace kq := Lib.hid (kq.out.keep hb5); replace kr := Lib.hid (kr.out.keep hb5); replace kg := Lib.hid (kg.out.keep hb5); replace kt := Lib.hid (kt.out.keep hb5); clear hb5)
    have p0 := kp.out.cell (i := 0) rfl
    have p1 := kp.out.cell (i := 1) rfl
    have p2 := kp.out.cell (i := 2) rfl
    have q0 := kq.out.cell (i := 0) rfl
    have q1 := kq.out.cell (i := 1) rfl
    have q2 := kq.out.cell (i := 2) rfl
    have r0 := kr.out.cell (i := 0) rfl
    have r1 := kr.out.cell (i := 1) rfl
    have r2 := kr.out.cell (i := 2) rfl
    have g0 := kg.out.cell (i := 0) rfl
    have g1 := kg.out.cell (i := 1) rfl
    have g2 := kg.out.cell (i := 2) rfl
    have t0 := kt.out.cell (i := 0) rfl
    have t1 := kt.out.cell (i := 1) rfl
    have t2 := kt.out.cell (i := 2) rfl
    go_wp2_with fail
    clear p0 p1 p2 q0 q1 q2 r0 r1 r2 g0 g1 g2 t0 t1 t2
    (((with_reducible refine (V2.out _).mono ?_); rintro e w6 ⟨rfl, hb6⟩); replace HB := Lib.hid (HB.out.trans (hb6.mono HB.out.size)); replace kp := Lib.hid (kp.out.keep hb6); replace kq := Lib.hid (kq.out.keep hb6); replace kr := Lib.hid (kr.out.keep hb6); replace kg := Lib.hid (kg.out.keep hb6); replace kt := Lib.hid (kt.out.keep hb6); clear hb6)
    clear V1 V2 e6 e7 e8 e9 e10 e11 e12 e13 e14 e15 e16 e17
    go_wp2_with fail
    (((with_reducible refine (sided_any _).mono ?_); rintro e w7 ⟨rfl, hb7⟩); replace HB := Lib.hid (HB.out.trans (hb7.mono HB.out.size)); clear hb7)
    go_wp2
    go_ret
    exact ⟨rfl, HB.out⟩
theorem ar_moves (a b c d e f m n : Int) : ar (a + m) (b + n) (c + m) (d + n) (e + m) (f + n) = ar a b c d e f := by unfold ar; grind
theorem vo_moves (a1 a2 a3 b1 b2 b3 c1 c2 c3 d1 d2 d3 m n k : Int) : vo (a1 + m) (a2 + n) (a3 + k) (b1 + m) (b2 + n) (b3 + k) (c1 + m) (c2 + n) (c3 + k) (d1 + m) (d2 + n) (d3 + k) = vo a1 a2 a3 b1 b2 b3 c1 c2 c3 d1 d2 d3 := by
  unfold vo
  rw [ar_moves, ar_moves, ar_moves, show d1 + m - (a1 + m) = d1 - a1 by omega, show d2 + n - (a2 + n) = d2 - a2 by omega, show d3 + k - (a3 + k) = d3 - a3 by omega]
theorem wrap_sm {m a b : Int} (hm : m ≤ 500000) (h : SM m a) (k : SM m b) : IntKind.i64.wrap (a + b) = a + b := IntWalk.i64_in _ (by unfold SM at h k; omega)
theorem vF_ways (t : Bool) (v x : Int) (h : v = x) : rE t = 5 ∨ (rE t = 0 ∧ vF t v = x) := by cases t with | false => exact .inl rfl | true => exact .inr ⟨rfl, h⟩
theorem law_moves (a1 a2 b1 b2 c1 c2 d1 d2 p1 p2 p3 q1 q2 q3 r1 r2 r3 g1 g2 g3 t1 t2 t3 : Int) (w : World) :
    Calls Try.prog 6 #[.agg #[.int .i64 a1, .int .i64 a2], .agg #[.int .i64 b1, .int .i64 b2], .agg #[.int .i64 c1, .int .i64 c2], .agg #[.int .i64 d1, .int .i64 d2], .agg #[.int .i64 p1, .int .i64 p2, .int .i64 p3], .agg #[.int .i64 q1, .int .i64 q2, .int .i64 q3], .agg #[.int .i64 r1, .int .i64 r2, .int .i64 r3], .agg #[.int .i64 g1, .int .i64 g2, .int .i64 g3], .agg #[.int .i64 t1, .int .i64 t2, .int .i64 t3]] w fun e' w' => e' = .returned (.bool true) ∧ Below w.heap.size w w' := by
  cases h2 : (s2 a1 a2 && s2 b1 b2 && s2 c1 c2 && s2 d1 d2) with
  | false => exact law_moves_out a1 a2 b1 b2 c1 c2 d1 d2 p1 p2 p3 q1 q2 q3 r1 r2 r3 g1 g2 g3 t1 t2 t3 _ _ w (Lib.hid fun g T W q => small2_4 a1 a2 b1 b2 c1 c2 d1 d2 _ rfl g T W q) (Lib.hid fun g T W q => small3_5 p1 p2 p3 q1 q2 q3 r1 r2 r3 g1 g2 g3 t1 t2 t3 _ rfl g T W q) (.inl h2)
  | true =>
    cases h3 : (s3 p1 p2 p3 && s3 q1 q2 q3 && s3 r1 r2 r3 && s3 g1 g2 g3 && s3 t1 t2 t3) with
    | false => exact law_moves_out a1 a2 b1 b2 c1 c2 d1 d2 p1 p2 p3 q1 q2 q3 r1 r2 r3 g1 g2 g3 t1 t2 t3 _ _ w (Lib.hid fun g T W q => small2_4 a1 a2 b1 b2 c1 c2 d1 d2 _ rfl g T W q) (Lib.hid fun g T W q => small3_5 p1 p2 p3 q1 q2 q3 r1 r2 r3 g1 g2 g3 t1 t2 t3 _ rfl g T W q) (.inr ⟨h2, h3⟩)
    | true =>
      have g2 := h2
      have g3 := h3
      simp only [Bool.and_eq_true, s2_iff, s3_iff] at g2 g3
      rw [Bool.and_eq_true] at h2 h3
      obtain ⟨⟨⟨⟨ga1, ga2⟩, gb1, gb2⟩, gc1, gc2⟩, gd1, gd2⟩ := g2
      obtain ⟨⟨⟨⟨⟨gp1, gp2, gp3⟩, gq1, gq2, gq3⟩, gr1, gr2, gr3⟩, gg1, gg2, gg3⟩, gt1, gt2, gt3⟩ := g3
      have U2 := small2_4 a1 a2 b1 b2 c1 c2 d1 d2 true (by rw [Bool.and_eq_true]; exact h2)
      have U3 := small3_5 p1 p2 p3 q1 q2 q3 r1 r2 r3 g1 g2 g3 t1 t2 t3 true (by rw [Bool.and_eq_true]; exact h3)
      refine law_moves_in a1 a2 b1 b2 c1 c2 d1 d2 p1 p2 p3 q1 q2 q3 r1 r2 r3 g1 g2 g3 t1 t2 t3 (ar a1 a2 b1 b2 c1 c2) _ _ (vo p1 p2 p3 q1 q2 q3 r1 r2 r3 g1 g2 g3) _ _ w (Lib.hid U2) (Lib.hid U3) (Lib.hid fun W => area_any _ _ _ _ _ _ true h2.1 W) (Lib.hid fun W => area_any _ _ _ _ _ _ _ rfl W) (Lib.hid fun W => volume_any _ _ _ _ _ _ _ _ _ _ _ _ true h3.1 W) (Lib.hid fun W => volume_any _ _ _ _ _ _ _ _ _ _ _ _ _ rfl W)
        (wrap_sm (by omega) ga1 gd1) (wrap_sm (by omega) ga2 gd2) (wrap_sm (by omega) gb1 gd1) (wrap_sm (by omega) gb2 gd2) (wrap_sm (by omega) gc1 gd1) (wrap_sm (by omega) gc2 gd2) (wrap_sm (by omega) gp1 gt1) (wrap_sm (by omega) gp2 gt2) (wrap_sm (by omega) gp3 gt3) (wrap_sm (by omega) gq1 gt1) (wrap_sm (by omega) gq2 gt2) (wrap_sm (by omega) gq3 gt3) (wrap_sm (by omega) gr1 gt1) (wrap_sm (by omega) gr2 gt2) (wrap_sm (by omega) gr3 gt3) (wrap_sm (by omega) gg1 gt1) (wrap_sm (by omega) gg2 gt2) (wrap_sm (by omega) gg3 gt3) (vF_ways _ _ _ (ar_moves _ _ _ _ _ _ _ _)) (vF_ways _ _ _ (vo_moves _ _ _ _ _ _ _ _ _ _ _ _ _ _ _))
end Go.Proofs.Yticjljbglimgeaa
