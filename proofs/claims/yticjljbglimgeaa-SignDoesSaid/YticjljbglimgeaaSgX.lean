/-
  The law SignDoes: its walk. (gen/SgX.py)
-/
import Derived.Test.YticjljbglimgeaaSgL
import Derived.Test.YticjljbglimgeaaSgS
namespace Go.Proofs.Yticjljbglimgeaa
open Go.RowKit

set_option maxRecDepth 100000 in
set_option maxHeartbeats 16000000 in
theorem law_does_at (aa1 aa2 bb1 bb2 cc1 cc2 pp1 pp2 pp3 qq1 qq2 qq3 rr1 rr2 rr3 ss1 ss2 ss3 xx ee yy vv ff n1 n2 n3 nn ax sd hh : Int) (U2 U3 : Bool) (w : World)
    (A1 : Hid (∀ W, Calls Try.prog 8 #[.agg #[.int .i64 aa1, .int .i64 aa2], .agg #[.int .i64 bb1, .int .i64 bb2], .agg #[.int .i64 cc1, .int .i64 cc2]] W fun e' w' => e' = .returned (.tuple #[.int .i64 xx, .int .i64 ee]) ∧ Below W.heap.size W w'))
    (A2 : Hid (∀ W, Calls Try.prog 10 #[.agg #[.int .i64 aa1, .int .i64 aa2], .agg #[.int .i64 bb1, .int .i64 bb2], .agg #[.int .i64 cc1, .int .i64 cc2]] W fun e' w' => e' = .returned (.tuple #[.int .i64 yy, .int .i64 ee]) ∧ Below W.heap.size W w'))
    (A3 : Hid (∀ W, Calls Try.prog 12 #[.agg #[.int .i64 pp1, .int .i64 pp2, .int .i64 pp3], .agg #[.int .i64 qq1, .int .i64 qq2, .int .i64 qq3], .agg #[.int .i64 rr1, .int .i64 rr2, .int .i64 rr3], .agg #[.int .i64 ss1, .int .i64 ss2, .int .i64 ss3]] W fun e' w' => e' = .returned (.tuple #[.int .i64 vv, .int .i64 ff]) ∧ Below W.heap.size W w'))
    (A4 : Hid (∀ W, Calls Try.prog 14 #[.agg #[.int .i64 pp1, .int .i64 pp2, .int .i64 pp3], .agg #[.int .i64 qq1, .int .i64 qq2, .int .i64 qq3], .agg #[.int .i64 rr1, .int .i64 rr2, .int .i64 rr3]] W fun e' w' => e' = .returned (.tuple #[.agg #[.int .i64 n1, .int .i64 n2, .int .i64 n3], .int .i64 nn]) ∧ Below W.heap.size W w'))
    (A5 : Hid (∀ W, Calls Try.prog 16 #[.agg #[.int .i64 pp1, .int .i64 pp2, .int .i64 pp3], .agg #[.int .i64 qq1, .int .i64 qq2, .int .i64 qq3], .agg #[.int .i64 rr1, .int .i64 rr2, .int .i64 rr3]] W fun e' w' => e' = .returned (.tuple #[.int .i64 ax, .int .i64 sd, .int .i64 hh]) ∧ Below W.heap.size W w'))
    (B1 : Hid (∀ W, Calls Try.prog 9 #[.agg #[.int .i64 aa1, .int .i64 aa2], .agg #[.int .i64 bb1, .int .i64 bb2], .agg #[.int .i64 cc1, .int .i64 cc2]] W fun e' w' => e' = .returned (.tuple #[.int .i64 xx, .int .i64 ee]) ∧ Below W.heap.size W w'))
    (B2 : Hid (∀ W, Calls Try.prog 11 #[.agg #[.int .i64 aa1, .int .i64 aa2], .agg #[.int .i64 bb1, .int .i64 bb2], .agg #[.int .i64 cc1, .int .i64 cc2]] W fun e' w' => e' = .returned (.tuple #[.int .i64 yy, .int .i64 ee]) ∧ Below W.heap.size W w'))
    (B3 : Hid (∀ W, Calls Try.prog 13 #[.agg #[.int .i64 pp1, .int .i64 pp2, .int .i64 pp3], .agg #[.int .i64 qq1, .int .i64 qq2, .int .i64 qq3], .agg #[.int .i64 rr1, .int .i64 rr2, .int .i64 rr3], .agg #[.int .i64 ss1, .int .i64 ss2, .int .i64 ss3]] W fun e' w' => e' = .returned (.tuple #[.int .i64 vv, .int .i64 ff]) ∧ Below W.heap.size W w'))
    (B4 : Hid (∀ W, Calls Try.prog 15 #[.agg #[.int .i64 pp1, .int .i64 pp2, .int .i64 pp3], .agg #[.int .i64 qq1, .int .i64 qq2, .int .i64 qq3], .agg #[.int .i64 rr1, .int .i64 rr2, .int .i64 rr3]] W fun e' w' => e' = .returned (.tuple #[.agg #[.int .i64 n1, .int .i64 n2, .int .i64 n3], .int .i64 nn]) ∧ Below W.heap.size W w'))
    (B5 : Hid (∀ W, Calls Try.prog 17 #[.agg #[.int .i64 pp1, .int .i64 pp2, .int .i64 pp3], .agg #[.int .i64 qq1, .int .i64 qq2, .int .i64 qq3], .agg #[.int .i64 rr1, .int .i64 rr2, .int .i64 rr3]] W fun e' w' => e' = .returned (.tuple #[.int .i64 ax, .int .i64 sd, .int .i64 hh]) ∧ Below W.heap.size W w'))
    (R1 : Hid (∀ g T W, Lok W g T #[.int .i64 aa1, .int .i64 aa2, .int .i64 bb1, .int .i64 bb2] → Calls Try.prog 19 #[.slice (some ⟨g, 0, none⟩) 2 2] W fun e w' => e = .returned (.bool U2) ∧ Below W.heap.size W w'))
    (R2 : Hid (∀ g T W, Lok W g T #[.int .i64 aa1, .int .i64 aa2, .int .i64 bb1, .int .i64 bb2] → Calls Try.prog 20 #[.slice (some ⟨g, 0, none⟩) 2 2] W fun e w' => e = .returned (.bool U2) ∧ Below W.heap.size W w'))
    (R3 : Hid (∀ g T W, Lok W g T #[.int .i64 pp1, .int .i64 pp2, .int .i64 pp3, .int .i64 qq1, .int .i64 qq2, .int .i64 qq3] → Calls Try.prog 21 #[.slice (some ⟨g, 0, none⟩) 2 2] W fun e w' => e = .returned (.bool U3) ∧ Below W.heap.size W w'))
    (R4 : Hid (∀ g T W, Lok W g T #[.int .i64 pp1, .int .i64 pp2, .int .i64 pp3, .int .i64 qq1, .int .i64 qq2, .int .i64 qq3] → Calls Try.prog 22 #[.slice (some ⟨g, 0, none⟩) 2 2] W fun e w' => e = .returned (.bool U3) ∧ Below W.heap.size W w')) :
    Calls Try.prog 3 #[.agg #[.int .i64 aa1, .int .i64 aa2], .agg #[.int .i64 bb1, .int .i64 bb2], .agg #[.int .i64 cc1, .int .i64 cc2], .agg #[.int .i64 pp1, .int .i64 pp2, .int .i64 pp3], .agg #[.int .i64 qq1, .int .i64 qq2, .int .i64 qq3], .agg #[.int .i64 rr1, .int .i64 rr2, .int .i64 rr3], .agg #[.int .i64 ss1, .int .i64 ss2, .int .i64 ss3]] w fun e' w' => e' = .returned (.bool true) ∧ Below w.heap.size w w' := by
  have HB := Lib.hid (Below.refl w.heap.size w)
  go_enter Try.func3, Try.ntmps3
  go_upto_region 1 with fail
  have hbxa := below_new1 w (.cells #[.int .i64 aa1, .int .i64 aa2] 23)
  have zxa : (w.alloc (.cells #[.int .i64 aa1, .int .i64 aa2] 23)).heap.size = w.heap.size + 1 := by simp
  have HB := Lib.hid hbxa
  have kxa := Lib.hid (Lok.new w 23 #[.int .i64 aa1, .int .i64 aa2])
  clear hbxa
  generalize w.alloc (.cells #[.int .i64 aa1, .int .i64 aa2] 23) = Vxa at *
  have hbxb := below_new1 Vxa (.cells #[.int .i64 bb1, .int .i64 bb2] 23)
  replace kxa := Lib.hid (kxa.out.keep hbxb)
  have zxb : (Vxa.alloc (.cells #[.int .i64 bb1, .int .i64 bb2] 23)).heap.size = Vxa.heap.size + 1 := by simp
  replace HB := Lib.hid (HB.out.trans (hbxb.mono HB.out.size))
  have kxb := Lib.hid (Lok.new Vxa 23 #[.int .i64 bb1, .int .i64 bb2])
  clear hbxb
  generalize Vxa.alloc (.cells #[.int .i64 bb1, .int .i64 bb2] 23) = Vxb at *
  rw [zxa] at kxb zxb
  have hbxc := below_new1 Vxb (.cells #[.int .i64 cc1, .int .i64 cc2] 23)
  replace kxa := Lib.hid (kxa.out.keep hbxc)
  replace kxb := Lib.hid (kxb.out.keep hbxc)
  have zxc : (Vxb.alloc (.cells #[.int .i64 cc1, .int .i64 cc2] 23)).heap.size = Vxb.heap.size + 1 := by simp
  replace HB := Lib.hid (HB.out.trans (hbxc.mono HB.out.size))
  have kxc := Lib.hid (Lok.new Vxb 23 #[.int .i64 cc1, .int .i64 cc2])
  clear hbxc
  generalize Vxb.alloc (.cells #[.int .i64 cc1, .int .i64 cc2] 23) = Vxc at *
  rw [zxb] at kxc zxc
  have hbxp := below_new1 Vxc (.cells #[.int .i64 pp1, .int .i64 pp2, .int .i64 pp3] 25)
  replace kxa := Lib.hid (kxa.out.keep hbxp)
  replace kxb := Lib.hid (kxb.out.keep hbxp)
  replace kxc := Lib.hid (kxc.out.keep hbxp)
  have zxp : (Vxc.alloc (.cells #[.int .i64 pp1, .int .i64 pp2, .int .i64 pp3] 25)).heap.size = Vxc.heap.size + 1 := by simp
  replace HB := Lib.hid (HB.out.trans (hbxp.mono HB.out.size))
  have kxp := Lib.hid (Lok.new Vxc 25 #[.int .i64 pp1, .int .i64 pp2, .int .i64 pp3])
  clear hbxp
  generalize Vxc.alloc (.cells #[.int .i64 pp1, .int .i64 pp2, .int .i64 pp3] 25) = Vxp at *
  rw [zxc] at kxp zxp
  have hbxq := below_new1 Vxp (.cells #[.int .i64 qq1, .int .i64 qq2, .int .i64 qq3] 25)
  replace kxa := Lib.hid (kxa.out.keep hbxq)
  replace kxb := Lib.hid (kxb.out.keep hbxq)
  replace kxc := Lib.hid (kxc.out.keep hbxq)
  replace kxp := Lib.hid (kxp.out.keep hbxq)
  have zxq : (Vxp.alloc (.cells #[.int .i64 qq1, .int .i64 qq2, .int .i64 qq3] 25)).heap.size = Vxp.heap.size + 1 := by simp
  replace HB := Lib.hid (HB.out.trans (hbxq.mono HB.out.size))
  have kxq := Lib.hid (Lok.new Vxp 25 #[.int .i64 qq1, .int .i64 qq2, .int .i64 qq3])
  clear hbxq
  generalize Vxp.alloc (.cells #[.int .i64 qq1, .int .i64 qq2, .int .i64 qq3] 25) = Vxq at *
  rw [zxp] at kxq zxq
  have hbxr := below_new1 Vxq (.cells #[.int .i64 rr1, .int .i64 rr2, .int .i64 rr3] 25)
  replace kxa := Lib.hid (kxa.out.keep hbxr)
  replace kxb := Lib.hid (kxb.out.keep hbxr)
  replace kxc := Lib.hid (kxc.out.keep hbxr)
  replace kxp := Lib.hid (kxp.out.keep hbxr)
  replace kxq := Lib.hid (kxq.out.keep hbxr)
  have zxr : (Vxq.alloc (.cells #[.int .i64 rr1, .int .i64 rr2, .int .i64 rr3] 25)).heap.size = Vxq.heap.size + 1 := by simp
  replace HB := Lib.hid (HB.out.trans (hbxr.mono HB.out.size))
  have kxr := Lib.hid (Lok.new Vxq 25 #[.int .i64 rr1, .int .i64 rr2, .int .i64 rr3])
  clear hbxr
  generalize Vxq.alloc (.cells #[.int .i64 rr1, .int .i64 rr2, .int .i64 rr3] 25) = Vxr at *
  rw [zxq] at kxr zxr
  have hbxs := below_new1 Vxr (.cells #[.int .i64 ss1, .int .i64 ss2, .int .i64 ss3] 25)
  replace kxa := Lib.hid (kxa.out.keep hbxs)
  replace kxb := Lib.hid (kxb.out.keep hbxs)
  replace kxc := Lib.hid (kxc.out.keep hbxs)
  replace kxp := Lib.hid (kxp.out.keep hbxs)
  replace kxq := Lib.hid (kxq.out.keep hbxs)
  replace kxr := Lib.hid (kxr.out.keep hbxs)
  have zxs : (Vxr.alloc (.cells #[.int .i64 ss1, .int .i64 ss2, .int .i64 ss3] 25)).heap.size = Vxr.heap.size + 1 := by simp
  replace HB := Lib.hid (HB.out.trans (hbxs.mono HB.out.size))
  have kxs := Lib.hid (Lok.new Vxr 25 #[.int .i64 ss1, .int .i64 ss2, .int .i64 ss3])
  clear hbxs
  generalize Vxr.alloc (.cells #[.int .i64 ss1, .int .i64 ss2, .int .i64 ss3] 25) = Vxs at *
  rw [zxr] at kxs
  clear zxa zxb zxc zxp zxq zxr zxs
  have xa0 := kxa.out.cell (i := 0) rfl
  have xa1 := kxa.out.cell (i := 1) rfl
  have xb0 := kxb.out.cell (i := 0) rfl
  have xb1 := kxb.out.cell (i := 1) rfl
  have xc0 := kxc.out.cell (i := 0) rfl
  have xc1 := kxc.out.cell (i := 1) rfl
  go_wp2_with fail
  clear xa0 xa1 xb0 xb1 xc0 xc1
  (((with_reducible refine (A1.out _).mono ?_); rintro e w1 ⟨rfl, hb1⟩); replace HB := Lib.hid (HB.out.trans (hb1.mono HB.out.size)); replace kxa := Lib.hid (kxa.out.keep hb1); replace kxb := Lib.hid (kxb.out.keep hb1); replace kxc := Lib.hid (kxc.out.keep hb1); replace kxp := Lib.hid (kxp.out.keep hb1); replace kxq := Lib.hid (kxq.out.keep hb1); replace kxr := Lib.hid (kxr.out.keep hb1); replace kxs := Lib.hid (kxs.out.keep hb1); clear hb1)
  have xa0 := kxa.out.cell (i := 0) rfl
  have xa1 := kxa.out.cell (i := 1) rfl
  have xb0 := kxb.out.cell (i := 0) rfl
  have xb1 := kxb.out.cell (i := 1) rfl
  have xc0 := kxc.out.cell (i := 0) rfl
  have xc1 := kxc.out.cell (i := 1) rfl
  go_wp2_with fail
  clear xa0 xa1 xb0 xb1 xc0 xc1
  (((with_reducible refine (B1.out _).mono ?_); rintro e w2 ⟨rfl, hb2⟩); replace HB := Lib.hid (HB.out.trans (hb2.mono HB.out.size)); replace kxa := Lib.hid (kxa.out.keep hb2); replace kxb := Lib.hid (kxb.out.keep hb2); replace kxc := Lib.hid (kxc.out.keep hb2); replace kxp := Lib.hid (kxp.out.keep hb2); replace kxq := Lib.hid (kxq.out.keep hb2); replace kxr := Lib.hid (kxr.out.keep hb2); replace kxs := Lib.hid (kxs.out.keep hb2); clear hb2)
  have xa0 := kxa.out.cell (i := 0) rfl
  have xa1 := kxa.out.cell (i := 1) rfl
  have xb0 := kxb.out.cell (i := 0) rfl
  have xb1 := kxb.out.cell (i := 1) rfl
  have xc0 := kxc.out.cell (i := 0) rfl
  have xc1 := kxc.out.cell (i := 1) rfl
  go_wp2_with fail
  clear xa0 xa1 xb0 xb1 xc0 xc1
  (((with_reducible refine (A2.out _).mono ?_); rintro e w3 ⟨rfl, hb3⟩); replace HB := Lib.hid (HB.out.trans (hb3.mono HB.out.size)); replace kxa := Lib.hid (kxa.out.keep hb3); replace kxb := Lib.hid (kxb.out.keep hb3); replace kxc := Lib.hid (kxc.out.keep hb3); replace kxp := Lib.hid (kxp.out.keep hb3); replace kxq := Lib.hid (kxq.out.keep hb3); replace kxr := Lib.hid (kxr.out.keep hb3); replace kxs := Lib.hid (kxs.out.keep hb3); clear hb3)
  have xa0 := kxa.out.cell (i := 0) rfl
  have xa1 := kxa.out.cell (i := 1) rfl
  have xb0 := kxb.out.cell (i := 0) rfl
  have xb1 := kxb.out.cell (i := 1) rfl
  have xc0 := kxc.out.cell (i := 0) rfl
  have xc1 := kxc.out.cell (i := 1) rfl
  go_wp2_with fail
  clear xa0 xa1 xb0 xb1 xc0 xc1
  (((with_reducible refine (B2.out _).mono ?_); rintro e w4 ⟨rfl, hb4⟩); replace HB := Lib.hid (HB.out.trans (hb4.mono HB.out.size)); replace kxa := Lib.hid (kxa.out.keep hb4); replace kxb := Lib.hid (kxb.out.keep hb4); replace kxc := Lib.hid (kxc.out.keep hb4); replace kxp := Lib.hid (kxp.out.keep hb4); replace kxq := Lib.hid (kxq.out.keep hb4); replace kxr := Lib.hid (kxr.out.keep hb4); replace kxs := Lib.hid (kxs.out.keep hb4); clear hb4)
  have xp0 := kxp.out.cell (i := 0) rfl
  have xp1 := kxp.out.cell (i := 1) rfl
  have xp2 := kxp.out.cell (i := 2) rfl
  have xq0 := kxq.out.cell (i := 0) rfl
  have xq1 := kxq.out.cell (i := 1) rfl
  have xq2 := kxq.out.cell (i := 2) rfl
  have xr0 := kxr.out.cell (i := 0) rfl
  have xr1 := kxr.out.cell (i := 1) rfl
  have xr2 := kxr.out.cell (i := 2) rfl
  have xs0 := kxs.out.cell (i := 0) rfl
  have xs1 := kxs.out.cell (i := 1) rfl
  have xs2 := kxs.out.cell (i := 2) rfl
  go_wp2_with fail
  clear xp0 xp1 xp2 xq0 xq1 xq2 xr0 xr1 xr2 xs0 xs1 xs2
  (((with_reducible refine (A3.out _).mono ?_); rintro e w5 ⟨rfl, hb5⟩); replace HB := Lib.hid (HB.out.trans (hb5.mono HB.out.size)); replace kxa := Lib.hid (kxa.out.keep hb5); replace kxb := Lib.hid (kxb.out.keep hb5); replace kxp := Lib.hid (kxp.out.keep hb5); replace kxq := Lib.hid (kxq.out.keep hb5); replace kxr := Lib.hid (kxr.out.keep hb5); replace kxs := Lib.hid (kxs.out.keep hb5); clear hb5)
  have xp0 := kxp.out.cell (i := 0) rfl
  have xp1 := kxp.out.cell (i := 1) rfl
  have xp2 := kxp.out.cell (i := 2) rfl
  have xq0 := kxq.out.cell (i := 0) rfl
  have xq1 := kxq.out.cell (i := 1) rfl
  have xq2 := kxq.out.cell (i := 2) rfl
  have xr0 := kxr.out.cell (i := 0) rfl
  have xr1 := kxr.out.cell (i := 1) rfl
  have xr2 := kxr.out.cell (i := 2) rfl
  have xs0 := kxs.out.cell (i := 0) rfl
  have xs1 := kxs.out.cell (i := 1) rfl
  have xs2 := kxs.out.cell (i := 2) rfl
  go_wp2_with fail
  clear xp0 xp1 xp2 xq0 xq1 xq2 xr0 xr1 xr2 xs0 xs1 xs2
  (((with_reducible refine (B3.out _).mono ?_); rintro e w6 ⟨rfl, hb6⟩); replace HB := Lib.hid (HB.out.trans (hb6.mono HB.out.size)); replace kxa := Lib.hid (kxa.out.keep hb6); replace kxb := Lib.hid (kxb.out.keep hb6); replace kxp := Lib.hid (kxp.out.keep hb6); replace kxq := Lib.hid (kxq.out.keep hb6); replace kxr := Lib.hid (kxr.out.keep hb6); replace kxs := Lib.hid (kxs.out.keep hb6); clear hb6)
  have xp0 := kxp.out.cell (i := 0) rfl
  have xp1 := kxp.out.cell (i := 1) rfl
  have xp2 := kxp.out.cell (i := 2) rfl
  have xq0 := kxq.out.cell (i := 0) rfl
  have xq1 := kxq.out.cell (i := 1) rfl
  have xq2 := kxq.out.cell (i := 2) rfl
  have xr0 := kxr.out.cell (i := 0) rfl
  have xr1 := kxr.out.cell (i := 1) rfl
  have xr2 := kxr.out.cell (i := 2) rfl
  go_wp2_with fail
  clear xp0 xp1 xp2 xq0 xq1 xq2 xr0 xr1 xr2
  ((with_reducible refine (A4.out _).mono ?_); rintro e wm ⟨rfl, hbm⟩)
  replace HB := Lib.hid (HB.out.trans (hbm.mono HB.out.size))
  replace kxa := Lib.hid (kxa.out.keep hbm)
  replace kxb := Lib.hid (kxb.out.keep hbm)
  replace kxp := Lib.hid (kxp.out.keep hbm)
  replace kxq := Lib.hid (kxq.out.keep hbm)
  replace kxr := Lib.hid (kxr.out.keep hbm)
  clear hbm
  go_upto_region 8 with fail
  have hbm := below_new1 wm (.cells #[.int .i64 n1, .int .i64 n2, .int .i64 n3] 25)
  replace HB := Lib.hid (HB.out.trans (hbm.mono HB.out.size))
  replace kxa := Lib.hid (kxa.out.keep hbm)
  replace kxb := Lib.hid (kxb.out.keep hbm)
  replace kxp := Lib.hid (kxp.out.keep hbm)
  replace kxq := Lib.hid (kxq.out.keep hbm)
  replace kxr := Lib.hid (kxr.out.keep hbm)
  have km := Lib.hid (Lok.new wm 25 #[.int .i64 n1, .int .i64 n2, .int .i64 n3])
  clear hbm
  generalize wm.alloc (.cells #[.int .i64 n1, .int .i64 n2, .int .i64 n3] 25) = Vm at *
  generalize wm.heap.size = gm at *
  have xp0 := kxp.out.cell (i := 0) rfl
  have xp1 := kxp.out.cell (i := 1) rfl
  have xp2 := kxp.out.cell (i := 2) rfl
  have xq0 := kxq.out.cell (i := 0) rfl
  have xq1 := kxq.out.cell (i := 1) rfl
  have xq2 := kxq.out.cell (i := 2) rfl
  have xr0 := kxr.out.cell (i := 0) rfl
  have xr1 := kxr.out.cell (i := 1) rfl
  have xr2 := kxr.out.cell (i := 2) rfl
  go_wp2_with fail
  clear xp0 xp1 xp2 xq0 xq1 xq2 xr0 xr1 xr2
  ((with_reducible refine (B4.out _).mono ?_); rintro e wn ⟨rfl, hbn⟩)
  replace HB := Lib.hid (HB.out.trans (hbn.mono HB.out.size))
  replace kxa := Lib.hid (kxa.out.keep hbn)
  replace kxb := Lib.hid (kxb.out.keep hbn)
  replace kxp := Lib.hid (kxp.out.keep hbn)
  replace kxq := Lib.hid (kxq.out.keep hbn)
  replace kxr := Lib.hid (kxr.out.keep hbn)
  replace km := Lib.hid (km.out.keep hbn)
  clear hbn
  go_upto_region 9 with fail
  have hbn := below_new1 wn (.cells #[.int .i64 n1, .int .i64 n2, .int .i64 n3] 25)
  replace HB := Lib.hid (HB.out.trans (hbn.mono HB.out.size))
  replace kxa := Lib.hid (kxa.out.keep hbn)
  replace kxb := Lib.hid (kxb.out.keep hbn)
  replace kxp := Lib.hid (kxp.out.keep hbn)
  replace kxq := Lib.hid (kxq.out.keep hbn)
  replace kxr := Lib.hid (kxr.out.keep hbn)
  replace km := Lib.hid (km.out.keep hbn)
  have kn := Lib.hid (Lok.new wn 25 #[.int .i64 n1, .int .i64 n2, .int .i64 n3])
  clear hbn
  generalize wn.alloc (.cells #[.int .i64 n1, .int .i64 n2, .int .i64 n3] 25) = Vn at *
  generalize wn.heap.size = gn at *
  have xp0 := kxp.out.cell (i := 0) rfl
  have xp1 := kxp.out.cell (i := 1) rfl
  have xp2 := kxp.out.cell (i := 2) rfl
  have xq0 := kxq.out.cell (i := 0) rfl
  have xq1 := kxq.out.cell (i := 1) rfl
  have xq2 := kxq.out.cell (i := 2) rfl
  have xr0 := kxr.out.cell (i := 0) rfl
  have xr1 := kxr.out.cell (i := 1) rfl
  have xr2 := kxr.out.cell (i := 2) rfl
  go_wp2_with fail
  clear xp0 xp1 xp2 xq0 xq1 xq2 xr0 xr1 xr2
  (((with_reducible refine (A5.out _).mono ?_); rintro e w9 ⟨rfl, hb9⟩); replace HB := Lib.hid (HB.out.trans (hb9.mono HB.out.size)); replace kxa := Lib.hid (kxa.out.keep hb9); replace kxb := Lib.hid (kxb.out.keep hb9); replace kxp := Lib.hid (kxp.out.keep hb9); replace kxq := Lib.hid (kxq.out.keep hb9); replace kxr := Lib.hid (kxr.out.keep hb9); replace km := Lib.hid (km.out.keep hb9); replace kn := Lib.hid (kn.out.keep hb9); clear hb9)
  have xp0 := kxp.out.cell (i := 0) rfl
  have xp1 := kxp.out.cell (i := 1) rfl
  have xp2 := kxp.out.cell (i := 2) rfl
  have xq0 := kxq.out.cell (i := 0) rfl
  have xq1 := kxq.out.cell (i := 1) rfl
  have xq2 := kxq.out.cell (i := 2) rfl
  have xr0 := kxr.out.cell (i := 0) rfl
  have xr1 := kxr.out.cell (i := 1) rfl
  have xr2 := kxr.out.cell (i := 2) rfl
  go_wp2_with fail
  clear xp0 xp1 xp2 xq0 xq1 xq2 xr0 xr1 xr2
  (((with_reducible refine (B5.out _).mono ?_); rintro e w10 ⟨rfl, hb10⟩); replace HB := Lib.hid (HB.out.trans (hb10.mono HB.out.size)); replace kxa := Lib.hid (kxa.out.keep hb10); replace kxb := Lib.hid (kxb.out.keep hb10); replace kxp := Lib.hid (kxp.out.keep hb10); replace kxq := Lib.hid (kxq.out.keep hb10); replace kxr := Lib.hid (kxr.out.keep hb10); replace km := Lib.hid (km.out.keep hb10); replace kn := Lib.hid (kn.out.keep hb10); clear hb10)
  clear A1 A2 A3 A4 A5 B1 B2 B3 B4 B5
  have qq := q3_self n1 n2 n3
  have m0 := km.out.cell (i := 0) rfl
  have m1 := km.out.cell (i := 1) rfl
  have m2 := km.out.cell (i := 2) rfl
  have n0 := kn.out.cell (i := 0) rfl
  have n1 := kn.out.cell (i := 1) rfl
  have n2 := kn.out.cell (i := 2) rfl
  go_upto_region 12 with fail
  clear m0 m1 m2 n0 n1 n2
  clear km kn qq
  refine wp_region_rel (by kernel_rfl) [165, 166, 167, 168, 169, 170, 171, 172, 173, 174, 175, 176, 177, 178, 179, 180, 181, 182, 183, 184, 185, 186, 187, 188, 189, 190, 14] ?Fr1 ?hFr1
    (fun L u W => Below w10.heap.size w10 W ∧ (L 0 = true → u 165 = .bool true) ∧ (L 1 = true → u 166 = .bool true) ∧ (L 2 = true → u 167 = .bool true) ∧ (L 3 = true → u 168 = .bool true) ∧ (L 4 = true → u 169 = .bool true) ∧ (L 5 = true → u 170 = .agg #[.int .i64 aa1, .int .i64 aa2]) ∧ (L 6 = true → u 171 = .agg #[.int .i64 bb1, .int .i64 bb2]) ∧ (L 7 = true → L 8 = false → RowAt W (u 172) 2 23 #[.int .i64 aa1, .int .i64 aa2, .int .i64 bb1, .int .i64 bb2]) ∧ (L 8 = true → u 173 = .bool U2) ∧ (L 9 = true → u 174 = .agg #[.int .i64 aa1, .int .i64 aa2]) ∧ (L 10 = true → u 175 = .agg #[.int .i64 bb1, .int .i64 bb2]) ∧ (L 11 = true → L 12 = false → RowAt W (u 176) 2 23 #[.int .i64 aa1, .int .i64 aa2, .int .i64 bb1, .int .i64 bb2]) ∧ (L 12 = true → u 177 = .bool U2) ∧ (L 13 = true → u 178 = .bool true) ∧ (L 14 = true → u 179 = .bool true) ∧ (L 15 = true → u 180 = .bool true) ∧ (L 16 = true → u 181 = .agg #[.int .i64 pp1, .int .i64 pp2, .int .i64 pp3]) ∧ (L 17 = true → u 182 = .agg #[.int .i64 qq1, .int .i64 qq2, .int .i64 qq3]) ∧ (L 18 = true → L 19 = false → RowAt W (u 183) 2 25 #[.int .i64 pp1, .int .i64 pp2, .int .i64 pp3, .int .i64 qq1, .int .i64 qq2, .int .i64 qq3]) ∧ (L 19 = true → u 184 = .bool U3) ∧ (L 20 = true → u 185 = .agg #[.int .i64 pp1, .int .i64 pp2, .int .i64 pp3]) ∧ (L 21 = true → u 186 = .agg #[.int .i64 qq1, .int .i64 qq2, .int .i64 qq3]) ∧ (L 22 = true → L 23 = false → RowAt W (u 187) 2 25 #[.int .i64 pp1, .int .i64 pp2, .int .i64 pp3, .int .i64 qq1, .int .i64 qq2, .int .i64 qq3]) ∧ (L 23 = true → u 188 = .bool U3) ∧ (L 24 = true → u 189 = .bool true) ∧ (L 25 = true → u 190 = .bool true) ∧ (L 26 = true → u 14 = .bool true)) (by kernel_rfl) (by kernel_rfl) 27 rfl ?h0r1 ?stepr1 ?finr1
  case hFr1 => intro u; simp only [putAll, Act.put, List.setIfInBounds_toArray, List.set]; exact rfl
  case h0r1 => intro L u hL; exact ⟨(Below.refl _ _).drew, (fun h => by simp [hL] at h), (fun h => by simp [hL] at h), (fun h => by simp [hL] at h), (fun h => by simp [hL] at h), (fun h => by simp [hL] at h), (fun h => by simp [hL] at h), (fun h => by simp [hL] at h), (fun h => by simp [hL] at h), (fun h => by simp [hL] at h), (fun h => by simp [hL] at h), (fun h => by simp [hL] at h), (fun h => by simp [hL] at h), (fun h => by simp [hL] at h), (fun h => by simp [hL] at h), (fun h => by simp [hL] at h), (fun h => by simp [hL] at h), (fun h => by simp [hL] at h), (fun h => by simp [hL] at h), (fun h => by simp [hL] at h), (fun h => by simp [hL] at h), (fun h => by simp [hL] at h), (fun h => by simp [hL] at h), (fun h => by simp [hL] at h), (fun h => by simp [hL] at h), (fun h => by simp [hL] at h), (fun h => by simp [hL] at h), (fun h => by simp [hL] at h)⟩
  case stepr1 =>
    refine ops_all (ops_cons ?s0r1 (ops_cons ?s1r1 (ops_cons ?s2r1 (ops_cons ?s3r1 (ops_cons ?s4r1 (ops_cons ?s5r1 (ops_cons ?s6r1 (ops_cons ?s7r1 (ops_cons ?s8r1 (ops_cons ?s9r1 (ops_cons ?s10r1 (ops_cons ?s11r1 (ops_cons ?s12r1 (ops_cons ?s13r1 (ops_cons ?s14r1 (ops_cons ?s15r1 (ops_cons ?s16r1 (ops_cons ?s17r1 (ops_cons ?s18r1 (ops_cons ?s19r1 (ops_cons ?s20r1 (ops_cons ?s21r1 (ops_cons ?s22r1 (ops_cons ?s23r1 (ops_cons ?s24r1 (ops_cons ?s25r1 (ops_cons ?s26r1 (ops_nil))))))))))))))))))))))))))))
    case s0r1 =>
      rintro L u W ⟨hB, c0, c1, c2, c3, c4, c5, c6, c7, c8, c9, c10, c11, c12, c13, c14, c15, c16, c17, c18, c19, c20, c21, c22, c23, c24, c25, c26⟩ hf hd K hK
      dsimp only at hK
      clear hd
      go_simp
      go_wp2_with (go_at_call 18; ((with_reducible refine (sided_any _).mono ?_); rintro e w5 ⟨rfl, hb⟩))
      refine hK _ _ ?_ (fun h => by cases h)
      intro s hs
      cases hs
      exact ⟨hB.trans (hb.mono hB.size), (fun _ => rfl), c1, c2, c3, c4, c5, c6, (fun h k => (c7 h k).keep hb), c8, c9, c10, (fun h k => (c11 h k).keep hb), c12, c13, c14, c15, c16, c17, (fun h k => (c18 h k).keep hb), c19, c20, c21, (fun h k => (c22 h k).keep hb), c23, c24, c25, c26⟩
    case s1r1 =>
      rintro L u W ⟨hB, c0, c1, c2, c3, c4, c5, c6, c7, c8, c9, c10, c11, c12, c13, c14, c15, c16, c17, c18, c19, c20, c21, c22, c23, c24, c25, c26⟩ hf hd K hK
      dsimp only at hK
      have hd0 : L 0 = true := (by first | (refine hd ⟨0, .data⟩ ?_ rfl; simp; done) | (refine hd ⟨0, .guard⟩ ?_ rfl; simp; done) | (refine hd ⟨0, .phase⟩ ?_ rfl; simp; done) | (refine hd ⟨0, .chain⟩ ?_ rfl; simp; done))
      have e0 := c0 hd0
      rw [e0] at hK
      clear hd0
      clear hd
      go_simp
      refine hK _ _ ?_ (fun h => by cases h)
      intro s hs
      cases hs
      exact ⟨hB, c0, (fun _ => rfl), c2, c3, c4, c5, c6, c7, c8, c9, c10, c11, c12, c13, c14, c15, c16, c17, c18, c19, c20, c21, c22, c23, c24, c25, c26⟩
    case s2r1 =>
      rintro L u W ⟨hB, c0, c1, c2, c3, c4, c5, c6, c7, c8, c9, c10, c11, c12, c13, c14, c15, c16, c17, c18, c19, c20, c21, c22, c23, c24, c25, c26⟩ hf hd K hK
      dsimp only at hK
      have hd1 : L 1 = true := (by first | (refine hd ⟨1, .data⟩ ?_ rfl; simp; done) | (refine hd ⟨1, .guard⟩ ?_ rfl; simp; done) | (refine hd ⟨1, .phase⟩ ?_ rfl; simp; done) | (refine hd ⟨1, .chain⟩ ?_ rfl; simp; done))
      have e1 := c1 hd1
      rw [e1] at hK
      clear hd1
      clear hd
      go_simp
      refine hK _ _ ?_ (fun h => by cases h)
      intro s hs
      cases hs
      exact ⟨hB, c0, c1, (fun _ => rfl), c3, c4, c5, c6, c7, c8, c9, c10, c11, c12, c13, c14, c15, c16, c17, c18, c19, c20, c21, c22, c23, c24, c25, c26⟩
    case s3r1 =>
      rintro L u W ⟨hB, c0, c1, c2, c3, c4, c5, c6, c7, c8, c9, c10, c11, c12, c13, c14, c15, c16, c17, c18, c19, c20, c21, c22, c23, c24, c25, c26⟩ hf hd K hK
      dsimp only at hK
      have hd1 : L 1 = true := (by first | (refine hd ⟨1, .data⟩ ?_ rfl; simp; done) | (refine hd ⟨1, .guard⟩ ?_ rfl; simp; done) | (refine hd ⟨1, .phase⟩ ?_ rfl; simp; done) | (refine hd ⟨1, .chain⟩ ?_ rfl; simp; done))
      have hd2 : L 2 = true := (by first | (refine hd ⟨2, .data⟩ ?_ rfl; simp; done) | (refine hd ⟨2, .guard⟩ ?_ rfl; simp; done) | (refine hd ⟨2, .phase⟩ ?_ rfl; simp; done) | (refine hd ⟨2, .chain⟩ ?_ rfl; simp; done))
      have e1 := c1 hd1
      rw [e1] at hK
      have e2 := c2 hd2
      rw [e2] at hK
      clear hd1
      clear hd2
      clear hd
      go_simp
      refine hK _ _ ?_ (fun h => by cases h)
      intro s hs
      cases hs
      exact ⟨hB, c0, c1, c2, (fun _ => rfl), c4, c5, c6, c7, c8, c9, c10, c11, c12, c13, c14, c15, c16, c17, c18, c19, c20, c21, c22, c23, c24, c25, c26⟩
    case s4r1 =>
      rintro L u W ⟨hB, c0, c1, c2, c3, c4, c5, c6, c7, c8, c9, c10, c11, c12, c13, c14, c15, c16, c17, c18, c19, c20, c21, c22, c23, c24, c25, c26⟩ hf hd K hK
      dsimp only at hK
      have hd3 : L 3 = true := (by first | (refine hd ⟨3, .data⟩ ?_ rfl; simp; done) | (refine hd ⟨3, .guard⟩ ?_ rfl; simp; done) | (refine hd ⟨3, .phase⟩ ?_ rfl; simp; done) | (refine hd ⟨3, .chain⟩ ?_ rfl; simp; done))
      have e3 := c3 hd3
      rw [e3] at hK
      clear hd3
      clear hd
      go_simp
      refine hK _ _ ?_ (fun h => by cases h)
      intro s hs
      cases hs
      exact ⟨hB, c0, c1, c2, c3, (fun _ => rfl), c5, c6, c7, c8, c9, c10, c11, c12, c13, c14, c15, c16, c17, c18, c19, c20, c21, c22, c23, c24, c25, c26⟩
    case s5r1 =>
      rintro L u W ⟨hB, c0, c1, c2, c3, c4, c5, c6, c7, c8, c9, c10, c11, c12, c13, c14, c15, c16, c17, c18, c19, c20, c21, c22, c23, c24, c25, c26⟩ hf hd K hK
      dsimp only at hK
      have hd4 : L 4 = true := (by first | (refine hd ⟨4, .data⟩ ?_ rfl; simp; done) | (refine hd ⟨4, .guard⟩ ?_ rfl; simp; done) | (refine hd ⟨4, .phase⟩ ?_ rfl; simp; done) | (refine hd ⟨4, .chain⟩ ?_ rfl; simp; done))
      have e4 := c4 hd4
      rw [e4] at hK
      have t0 := (kxa.out.keep hB).cell (i := 0) rfl
      have t1 := (kxa.out.keep hB).cell (i := 1) rfl
      clear hd4
      clear hd
      go_simp
      refine hK _ _ ?_ (fun h => by cases h)
      intro s hs
      cases hs
      exact ⟨hB, c0, c1, c2, c3, c4, (fun _ => rfl), c6, c7, c8, c9, c10, c11, c12, c13, c14, c15, c16, c17, c18, c19, c20, c21, c22, c23, c24, c25, c26⟩
    case s6r1 =>
      rintro L u W ⟨hB, c0, c1, c2, c3, c4, c5, c6, c7, c8, c9, c10, c11, c12, c13, c14, c15, c16, c17, c18, c19, c20, c21, c22, c23, c24, c25, c26⟩ hf hd K hK
      dsimp only at hK
      have hd4 : L 4 = true := (by first | (refine hd ⟨4, .data⟩ ?_ rfl; simp; done) | (refine hd ⟨4, .guard⟩ ?_ rfl; simp; done) | (refine hd ⟨4, .phase⟩ ?_ rfl; simp; done) | (refine hd ⟨4, .chain⟩ ?_ rfl; simp; done))
      have e4 := c4 hd4
      rw [e4] at hK
      have t0 := (kxb.out.keep hB).cell (i := 0) rfl
      have t1 := (kxb.out.keep hB).cell (i := 1) rfl
      clear hd4
      clear hd
      go_simp
      refine hK _ _ ?_ (fun h => by cases h)
      intro s hs
      cases hs
      exact ⟨hB, c0, c1, c2, c3, c4, c5, (fun _ => rfl), c7, c8, c9, c10, c11, c12, c13, c14, c15, c16, c17, c18, c19, c20, c21, c22, c23, c24, c25, c26⟩
    case s7r1 =>
      rintro L u W ⟨hB, c0, c1, c2, c3, c4, c5, c6, c7, c8, c9, c10, c11, c12, c13, c14, c15, c16, c17, c18, c19, c20, c21, c22, c23, c24, c25, c26⟩ hf hd K hK
      dsimp only at hK
      have hd4 : L 4 = true := (by first | (refine hd ⟨4, .data⟩ ?_ rfl; simp; done) | (refine hd ⟨4, .guard⟩ ?_ rfl; simp; done) | (refine hd ⟨4, .phase⟩ ?_ rfl; simp; done) | (refine hd ⟨4, .chain⟩ ?_ rfl; simp; done))
      have hd5 : L 5 = true := (by first | (refine hd ⟨5, .data⟩ ?_ rfl; simp; done) | (refine hd ⟨5, .guard⟩ ?_ rfl; simp; done) | (refine hd ⟨5, .phase⟩ ?_ rfl; simp; done) | (refine hd ⟨5, .chain⟩ ?_ rfl; simp; done))
      have hd6 : L 6 = true := (by first | (refine hd ⟨6, .data⟩ ?_ rfl; simp; done) | (refine hd ⟨6, .guard⟩ ?_ rfl; simp; done) | (refine hd ⟨6, .phase⟩ ?_ rfl; simp; done) | (refine hd ⟨6, .chain⟩ ?_ rfl; simp; done))
      have e4 := c4 hd4
      rw [e4] at hK
      have e5 := c5 hd5
      rw [e5] at hK
      have e6 := c6 hd6
      rw [e6] at hK
      clear hd4
      clear hd5
      clear hd6
      clear hd
      go_simp
      have hb : Below W.heap.size W (W.alloc (.cells #[.int .i64 aa1, .int .i64 aa2, .int .i64 bb1, .int .i64 bb2] 23)) := (Below.refl _ W).alloc (Nat.le_refl _) _
      refine hK _ _ ?_ (fun h => by cases h)
      intro s hs
      cases hs
      exact ⟨hB.trans (hb.mono hB.size), c0, c1, c2, c3, c4, c5, c6, (fun _ _ => ⟨_, rfl, Lok.new _ _ _⟩), c8, c9, c10, (fun h k => (c11 h k).keep hb), c12, c13, c14, c15, c16, c17, (fun h k => (c18 h k).keep hb), c19, c20, c21, (fun h k => (c22 h k).keep hb), c23, c24, c25, c26⟩
    case s8r1 =>
      rintro L u W ⟨hB, c0, c1, c2, c3, c4, c5, c6, c7, c8, c9, c10, c11, c12, c13, c14, c15, c16, c17, c18, c19, c20, c21, c22, c23, c24, c25, c26⟩ hf hd K hK
      dsimp only at hK
      have hd4 : L 4 = true := (by first | (refine hd ⟨4, .data⟩ ?_ rfl; simp; done) | (refine hd ⟨4, .guard⟩ ?_ rfl; simp; done) | (refine hd ⟨4, .phase⟩ ?_ rfl; simp; done) | (refine hd ⟨4, .chain⟩ ?_ rfl; simp; done))
      have hd7 : L 7 = true := (by first | (refine hd ⟨7, .data⟩ ?_ rfl; simp; done) | (refine hd ⟨7, .guard⟩ ?_ rfl; simp; done) | (refine hd ⟨7, .phase⟩ ?_ rfl; simp; done) | (refine hd ⟨7, .chain⟩ ?_ rfl; simp; done))
      have e4 := c4 hd4
      rw [e4] at hK
      have e7 := c7 hd7 (by first | exact hf | assumption)
      clear hd4
      clear hd7
      obtain ⟨g, eg, hl⟩ := e7; rw [eg] at hK
      clear hd
      go_simp
      go_wp2_with (go_at_call 19; ((with_reducible refine (R1.out g _ _ hl).mono ?_); rintro e w5 ⟨rfl, hb⟩))
      refine hK _ _ ?_ (fun h => by cases h)
      intro s hs
      cases hs
      exact ⟨hB.trans (hb.mono hB.size), c0, c1, c2, c3, c4, c5, c6, (fun _ h => by cases h), (fun _ => rfl), c9, c10, (fun h k => (c11 h k).keep hb), c12, c13, c14, c15, c16, c17, (fun h k => (c18 h k).keep hb), c19, c20, c21, (fun h k => (c22 h k).keep hb), c23, c24, c25, c26⟩
    case s9r1 =>
      rintro L u W ⟨hB, c0, c1, c2, c3, c4, c5, c6, c7, c8, c9, c10, c11, c12, c13, c14, c15, c16, c17, c18, c19, c20, c21, c22, c23, c24, c25, c26⟩ hf hd K hK
      dsimp only at hK
      have hd4 : L 4 = true := (by first | (refine hd ⟨4, .data⟩ ?_ rfl; simp; done) | (refine hd ⟨4, .guard⟩ ?_ rfl; simp; done) | (refine hd ⟨4, .phase⟩ ?_ rfl; simp; done) | (refine hd ⟨4, .chain⟩ ?_ rfl; simp; done))
      have e4 := c4 hd4
      rw [e4] at hK
      have t0 := (kxa.out.keep hB).cell (i := 0) rfl
      have t1 := (kxa.out.keep hB).cell (i := 1) rfl
      clear hd4
      clear hd
      go_simp
      refine hK _ _ ?_ (fun h => by cases h)
      intro s hs
      cases hs
      exact ⟨hB, c0, c1, c2, c3, c4, c5, c6, c7, c8, (fun _ => rfl), c10, c11, c12, c13, c14, c15, c16, c17, c18, c19, c20, c21, c22, c23, c24, c25, c26⟩
    case s10r1 =>
      rintro L u W ⟨hB, c0, c1, c2, c3, c4, c5, c6, c7, c8, c9, c10, c11, c12, c13, c14, c15, c16, c17, c18, c19, c20, c21, c22, c23, c24, c25, c26⟩ hf hd K hK
      dsimp only at hK
      have hd4 : L 4 = true := (by first | (refine hd ⟨4, .data⟩ ?_ rfl; simp; done) | (refine hd ⟨4, .guard⟩ ?_ rfl; simp; done) | (refine hd ⟨4, .phase⟩ ?_ rfl; simp; done) | (refine hd ⟨4, .chain⟩ ?_ rfl; simp; done))
      have e4 := c4 hd4
      rw [e4] at hK
      have t0 := (kxb.out.keep hB).cell (i := 0) rfl
      have t1 := (kxb.out.keep hB).cell (i := 1) rfl
      clear hd4
      clear hd
      go_simp
      refine hK _ _ ?_ (fun h => by cases h)
      intro s hs
      cases hs
      exact ⟨hB, c0, c1, c2, c3, c4, c5, c6, c7, c8, c9, (fun _ => rfl), c11, c12, c13, c14, c15, c16, c17, c18, c19, c20, c21, c22, c23, c24, c25, c26⟩
    case s11r1 =>
      rintro L u W ⟨hB, c0, c1, c2, c3, c4, c5, c6, c7, c8, c9, c10, c11, c12, c13, c14, c15, c16, c17, c18, c19, c20, c21, c22, c23, c24, c25, c26⟩ hf hd K hK
      dsimp only at hK
      have hd4 : L 4 = true := (by first | (refine hd ⟨4, .data⟩ ?_ rfl; simp; done) | (refine hd ⟨4, .guard⟩ ?_ rfl; simp; done) | (refine hd ⟨4, .phase⟩ ?_ rfl; simp; done) | (refine hd ⟨4, .chain⟩ ?_ rfl; simp; done))
      have hd9 : L 9 = true := (by first | (refine hd ⟨9, .data⟩ ?_ rfl; simp; done) | (refine hd ⟨9, .guard⟩ ?_ rfl; simp; done) | (refine hd ⟨9, .phase⟩ ?_ rfl; simp; done) | (refine hd ⟨9, .chain⟩ ?_ rfl; simp; done))
      have hd10 : L 10 = true := (by first | (refine hd ⟨10, .data⟩ ?_ rfl; simp; done) | (refine hd ⟨10, .guard⟩ ?_ rfl; simp; done) | (refine hd ⟨10, .phase⟩ ?_ rfl; simp; done) | (refine hd ⟨10, .chain⟩ ?_ rfl; simp; done))
      have e4 := c4 hd4
      rw [e4] at hK
      have e9 := c9 hd9
      rw [e9] at hK
      have e10 := c10 hd10
      rw [e10] at hK
      clear hd4
      clear hd9
      clear hd10
      clear hd
      go_simp
      have hb : Below W.heap.size W (W.alloc (.cells #[.int .i64 aa1, .int .i64 aa2, .int .i64 bb1, .int .i64 bb2] 23)) := (Below.refl _ W).alloc (Nat.le_refl _) _
      refine hK _ _ ?_ (fun h => by cases h)
      intro s hs
      cases hs
      exact ⟨hB.trans (hb.mono hB.size), c0, c1, c2, c3, c4, c5, c6, (fun h k => (c7 h k).keep hb), c8, c9, c10, (fun _ _ => ⟨_, rfl, Lok.new _ _ _⟩), c12, c13, c14, c15, c16, c17, (fun h k => (c18 h k).keep hb), c19, c20, c21, (fun h k => (c22 h k).keep hb), c23, c24, c25, c26⟩
    case s12r1 =>
      rintro L u W ⟨hB, c0, c1, c2, c3, c4, c5, c6, c7, c8, c9, c10, c11, c12, c13, c14, c15, c16, c17, c18, c19, c20, c21, c22, c23, c24, c25, c26⟩ hf hd K hK
      dsimp only at hK
      have hd4 : L 4 = true := (by first | (refine hd ⟨4, .data⟩ ?_ rfl; simp; done) | (refine hd ⟨4, .guard⟩ ?_ rfl; simp; done) | (refine hd ⟨4, .phase⟩ ?_ rfl; simp; done) | (refine hd ⟨4, .chain⟩ ?_ rfl; simp; done))
      have hd11 : L 11 = true := (by first | (refine hd ⟨11, .data⟩ ?_ rfl; simp; done) | (refine hd ⟨11, .guard⟩ ?_ rfl; simp; done) | (refine hd ⟨11, .phase⟩ ?_ rfl; simp; done) | (refine hd ⟨11, .chain⟩ ?_ rfl; simp; done))
      have e4 := c4 hd4
      rw [e4] at hK
      have e11 := c11 hd11 (by first | exact hf | assumption)
      clear hd4
      clear hd11
      obtain ⟨g, eg, hl⟩ := e11; rw [eg] at hK
      clear hd
      go_simp
      go_wp2_with (go_at_call 20; ((with_reducible refine (R2.out g _ _ hl).mono ?_); rintro e w5 ⟨rfl, hb⟩))
      refine hK _ _ ?_ (fun h => by cases h)
      intro s hs
      cases hs
      exact ⟨hB.trans (hb.mono hB.size), c0, c1, c2, c3, c4, c5, c6, (fun h k => (c7 h k).keep hb), c8, c9, c10, (fun _ h => by cases h), (fun _ => rfl), c13, c14, c15, c16, c17, (fun h k => (c18 h k).keep hb), c19, c20, c21, (fun h k => (c22 h k).keep hb), c23, c24, c25, c26⟩
    case s13r1 =>
      rintro L u W ⟨hB, c0, c1, c2, c3, c4, c5, c6, c7, c8, c9, c10, c11, c12, c13, c14, c15, c16, c17, c18, c19, c20, c21, c22, c23, c24, c25, c26⟩ hf hd K hK
      dsimp only at hK
      have hd4 : L 4 = true := (by first | (refine hd ⟨4, .data⟩ ?_ rfl; simp; done) | (refine hd ⟨4, .guard⟩ ?_ rfl; simp; done) | (refine hd ⟨4, .phase⟩ ?_ rfl; simp; done) | (refine hd ⟨4, .chain⟩ ?_ rfl; simp; done))
      have hd8 : L 8 = true := (by first | (refine hd ⟨8, .data⟩ ?_ rfl; simp; done) | (refine hd ⟨8, .guard⟩ ?_ rfl; simp; done) | (refine hd ⟨8, .phase⟩ ?_ rfl; simp; done) | (refine hd ⟨8, .chain⟩ ?_ rfl; simp; done))
      have hd12 : L 12 = true := (by first | (refine hd ⟨12, .data⟩ ?_ rfl; simp; done) | (refine hd ⟨12, .guard⟩ ?_ rfl; simp; done) | (refine hd ⟨12, .phase⟩ ?_ rfl; simp; done) | (refine hd ⟨12, .chain⟩ ?_ rfl; simp; done))
      have e4 := c4 hd4
      rw [e4] at hK
      have e8 := c8 hd8
      rw [e8] at hK
      have e12 := c12 hd12
      rw [e12] at hK
      clear hd4
      clear hd8
      clear hd12
      clear hd
      go_simp
      refine hK _ _ ?_ (fun h => by cases h)
      intro s hs
      cases hs
      exact ⟨hB, c0, c1, c2, c3, c4, c5, c6, c7, c8, c9, c10, c11, c12, (fun _ => rfl), c14, c15, c16, c17, c18, c19, c20, c21, c22, c23, c24, c25, c26⟩
    case s14r1 =>
      rintro L u W ⟨hB, c0, c1, c2, c3, c4, c5, c6, c7, c8, c9, c10, c11, c12, c13, c14, c15, c16, c17, c18, c19, c20, c21, c22, c23, c24, c25, c26⟩ hf hd K hK
      dsimp only at hK
      have hd4 : L 4 = true := (by first | (refine hd ⟨4, .data⟩ ?_ rfl; simp; done) | (refine hd ⟨4, .guard⟩ ?_ rfl; simp; done) | (refine hd ⟨4, .phase⟩ ?_ rfl; simp; done) | (refine hd ⟨4, .chain⟩ ?_ rfl; simp; done))
      have hd13 : L 13 = true := (by first | (refine hd ⟨13, .data⟩ ?_ rfl; simp; done) | (refine hd ⟨13, .guard⟩ ?_ rfl; simp; done) | (refine hd ⟨13, .phase⟩ ?_ rfl; simp; done) | (refine hd ⟨13, .chain⟩ ?_ rfl; simp; done))
      have e4 := c4 hd4
      rw [e4] at hK
      have e13 := c13 hd13
      rw [e13] at hK
      clear hd4
      clear hd13
      clear hd
      go_simp
      refine hK _ _ ?_ (fun h => by cases h)
      intro s hs
      cases hs
      exact ⟨hB, c0, c1, c2, c3, c4, c5, c6, c7, c8, c9, c10, c11, c12, c13, (fun _ => rfl), c15, c16, c17, c18, c19, c20, c21, c22, c23, c24, c25, c26⟩
    case s15r1 =>
      rintro L u W ⟨hB, c0, c1, c2, c3, c4, c5, c6, c7, c8, c9, c10, c11, c12, c13, c14, c15, c16, c17, c18, c19, c20, c21, c22, c23, c24, c25, c26⟩ hf hd K hK
      dsimp only at hK
      have hd14 : L 14 = true := (by first | (refine hd ⟨14, .data⟩ ?_ rfl; simp; done) | (refine hd ⟨14, .guard⟩ ?_ rfl; simp; done) | (refine hd ⟨14, .phase⟩ ?_ rfl; simp; done) | (refine hd ⟨14, .chain⟩ ?_ rfl; simp; done))
      have e14 := c14 hd14
      rw [e14] at hK
      clear hd14
      clear hd
      go_simp
      refine hK _ _ ?_ (fun h => by cases h)
      intro s hs
      cases hs
      exact ⟨hB, c0, c1, c2, c3, c4, c5, c6, c7, c8, c9, c10, c11, c12, c13, c14, (fun _ => rfl), c16, c17, c18, c19, c20, c21, c22, c23, c24, c25, c26⟩
    case s16r1 =>
      rintro L u W ⟨hB, c0, c1, c2, c3, c4, c5, c6, c7, c8, c9, c10, c11, c12, c13, c14, c15, c16, c17, c18, c19, c20, c21, c22, c23, c24, c25, c26⟩ hf hd K hK
      dsimp only at hK
      have hd15 : L 15 = true := (by first | (refine hd ⟨15, .data⟩ ?_ rfl; simp; done) | (refine hd ⟨15, .guard⟩ ?_ rfl; simp; done) | (refine hd ⟨15, .phase⟩ ?_ rfl; simp; done) | (refine hd ⟨15, .chain⟩ ?_ rfl; simp; done))
      have e15 := c15 hd15
      rw [e15] at hK
      have t0 := (kxp.out.keep hB).cell (i := 0) rfl
      have t1 := (kxp.out.keep hB).cell (i := 1) rfl
      have t2 := (kxp.out.keep hB).cell (i := 2) rfl
      clear hd15
      clear hd
      go_simp
      refine hK _ _ ?_ (fun h => by cases h)
      intro s hs
      cases hs
      exact ⟨hB, c0, c1, c2, c3, c4, c5, c6, c7, c8, c9, c10, c11, c12, c13, c14, c15, (fun _ => rfl), c17, c18, c19, c20, c21, c22, c23, c24, c25, c26⟩
    case s17r1 =>
      rintro L u W ⟨hB, c0, c1, c2, c3, c4, c5, c6, c7, c8, c9, c10, c11, c12, c13, c14, c15, c16, c17, c18, c19, c20, c21, c22, c23, c24, c25, c26⟩ hf hd K hK
      dsimp only at hK
      have hd15 : L 15 = true := (by first | (refine hd ⟨15, .data⟩ ?_ rfl; simp; done) | (refine hd ⟨15, .guard⟩ ?_ rfl; simp; done) | (refine hd ⟨15, .phase⟩ ?_ rfl; simp; done) | (refine hd ⟨15, .chain⟩ ?_ rfl; simp; done))
      have e15 := c15 hd15
      rw [e15] at hK
      have t0 := (kxq.out.keep hB).cell (i := 0) rfl
      have t1 := (kxq.out.keep hB).cell (i := 1) rfl
      have t2 := (kxq.out.keep hB).cell (i := 2) rfl
      clear hd15
      clear hd
      go_simp
      refine hK _ _ ?_ (fun h => by cases h)
      intro s hs
      cases hs
      exact ⟨hB, c0, c1, c2, c3, c4, c5, c6, c7, c8, c9, c10, c11, c12, c13, c14, c15, c16, (fun _ => rfl), c18, c19, c20, c21, c22, c23, c24, c25, c26⟩
    case s18r1 =>
      rintro L u W ⟨hB, c0, c1, c2, c3, c4, c5, c6, c7, c8, c9, c10, c11, c12, c13, c14, c15, c16, c17, c18, c19, c20, c21, c22, c23, c24, c25, c26⟩ hf hd K hK
      dsimp only at hK
      have hd15 : L 15 = true := (by first | (refine hd ⟨15, .data⟩ ?_ rfl; simp; done) | (refine hd ⟨15, .guard⟩ ?_ rfl; simp; done) | (refine hd ⟨15, .phase⟩ ?_ rfl; simp; done) | (refine hd ⟨15, .chain⟩ ?_ rfl; simp; done))
      have hd16 : L 16 = true := (by first | (refine hd ⟨16, .data⟩ ?_ rfl; simp; done) | (refine hd ⟨16, .guard⟩ ?_ rfl; simp; done) | (refine hd ⟨16, .phase⟩ ?_ rfl; simp; done) | (refine hd ⟨16, .chain⟩ ?_ rfl; simp; done))
      have hd17 : L 17 = true := (by first | (refine hd ⟨17, .data⟩ ?_ rfl; simp; done) | (refine hd ⟨17, .guard⟩ ?_ rfl; simp; done) | (refine hd ⟨17, .phase⟩ ?_ rfl; simp; done) | (refine hd ⟨17, .chain⟩ ?_ rfl; simp; done))
      have e15 := c15 hd15
      rw [e15] at hK
      have e16 := c16 hd16
      rw [e16] at hK
      have e17 := c17 hd17
      rw [e17] at hK
      clear hd15
      clear hd16
      clear hd17
      clear hd
      go_simp
      have hb : Below W.heap.size W (W.alloc (.cells #[.int .i64 pp1, .int .i64 pp2, .int .i64 pp3, .int .i64 qq1, .int .i64 qq2, .int .i64 qq3] 25)) := (Below.refl _ W).alloc (Nat.le_refl _) _
      refine hK _ _ ?_ (fun h => by cases h)
      intro s hs
      cases hs
      exact ⟨hB.trans (hb.mono hB.size), c0, c1, c2, c3, c4, c5, c6, (fun h k => (c7 h k).keep hb), c8, c9, c10, (fun h k => (c11 h k).keep hb), c12, c13, c14, c15, c16, c17, (fun _ _ => ⟨_, rfl, Lok.new _ _ _⟩), c19, c20, c21, (fun h k => (c22 h k).keep hb), c23, c24, c25, c26⟩
    case s19r1 =>
      rintro L u W ⟨hB, c0, c1, c2, c3, c4, c5, c6, c7, c8, c9, c10, c11, c12, c13, c14, c15, c16, c17, c18, c19, c20, c21, c22, c23, c24, c25, c26⟩ hf hd K hK
      dsimp only at hK
      have hd15 : L 15 = true := (by first | (refine hd ⟨15, .data⟩ ?_ rfl; simp; done) | (refine hd ⟨15, .guard⟩ ?_ rfl; simp; done) | (refine hd ⟨15, .phase⟩ ?_ rfl; simp; done) | (refine hd ⟨15, .chain⟩ ?_ rfl; simp; done))
      have hd18 : L 18 = true := (by first | (refine hd ⟨18, .data⟩ ?_ rfl; simp; done) | (refine hd ⟨18, .guard⟩ ?_ rfl; simp; done) | (refine hd ⟨18, .phase⟩ ?_ rfl; simp; done) | (refine hd ⟨18, .chain⟩ ?_ rfl; simp; done))
      have e15 := c15 hd15
      rw [e15] at hK
      have e18 := c18 hd18 (by first | exact hf | assumption)
      clear hd15
      clear hd18
      obtain ⟨g, eg, hl⟩ := e18; rw [eg] at hK
      clear hd
      go_simp
      go_wp2_with (go_at_call 21; ((with_reducible refine (R3.out g _ _ hl).mono ?_); rintro e w5 ⟨rfl, hb⟩))
      refine hK _ _ ?_ (fun h => by cases h)
      intro s hs
      cases hs
      exact ⟨hB.trans (hb.mono hB.size), c0, c1, c2, c3, c4, c5, c6, (fun h k => (c7 h k).keep hb), c8, c9, c10, (fun h k => (c11 h k).keep hb), c12, c13, c14, c15, c16, c17, (fun _ h => by cases h), (fun _ => rfl), c20, c21, (fun h k => (c22 h k).keep hb), c23, c24, c25, c26⟩
    case s20r1 =>
      rintro L u W ⟨hB, c0, c1, c2, c3, c4, c5, c6, c7, c8, c9, c10, c11, c12, c13, c14, c15, c16, c17, c18, c19, c20, c21, c22, c23, c24, c25, c26⟩ hf hd K hK
      dsimp only at hK
      have hd15 : L 15 = true := (by first | (refine hd ⟨15, .data⟩ ?_ rfl; simp; done) | (refine hd ⟨15, .guard⟩ ?_ rfl; simp; done) | (refine hd ⟨15, .phase⟩ ?_ rfl; simp; done) | (refine hd ⟨15, .chain⟩ ?_ rfl; simp; done))
      have e15 := c15 hd15
      rw [e15] at hK
      have t0 := (kxp.out.keep hB).cell (i := 0) rfl
      have t1 := (kxp.out.keep hB).cell (i := 1) rfl
      have t2 := (kxp.out.keep hB).cell (i := 2) rfl
      clear hd15
      clear hd
      go_simp
      refine hK _ _ ?_ (fun h => by cases h)
      intro s hs
      cases hs
      exact ⟨hB, c0, c1, c2, c3, c4, c5, c6, c7, c8, c9, c10, c11, c12, c13, c14, c15, c16, c17, c18, c19, (fun _ => rfl), c21, c22, c23, c24, c25, c26⟩
    case s21r1 =>
      rintro L u W ⟨hB, c0, c1, c2, c3, c4, c5, c6, c7, c8, c9, c10, c11, c12, c13, c14, c15, c16, c17, c18, c19, c20, c21, c22, c23, c24, c25, c26⟩ hf hd K hK
      dsimp only at hK
      have hd15 : L 15 = true := (by first | (refine hd ⟨15, .data⟩ ?_ rfl; simp; done) | (refine hd ⟨15, .guard⟩ ?_ rfl; simp; done) | (refine hd ⟨15, .phase⟩ ?_ rfl; simp; done) | (refine hd ⟨15, .chain⟩ ?_ rfl; simp; done))
      have e15 := c15 hd15
      rw [e15] at hK
      have t0 := (kxq.out.keep hB).cell (i := 0) rfl
      have t1 := (kxq.out.keep hB).cell (i := 1) rfl
      have t2 := (kxq.out.keep hB).cell (i := 2) rfl
      clear hd15
      clear hd
      go_simp
      refine hK _ _ ?_ (fun h => by cases h)
      intro s hs
      cases hs
      exact ⟨hB, c0, c1, c2, c3, c4, c5, c6, c7, c8, c9, c10, c11, c12, c13, c14, c15, c16, c17, c18, c19, c20, (fun _ => rfl), c22, c23, c24, c25, c26⟩
    case s22r1 =>
      rintro L u W ⟨hB, c0, c1, c2, c3, c4, c5, c6, c7, c8, c9, c10, c11, c12, c13, c14, c15, c16, c17, c18, c19, c20, c21, c22, c23, c24, c25, c26⟩ hf hd K hK
      dsimp only at hK
      have hd15 : L 15 = true := (by first | (refine hd ⟨15, .data⟩ ?_ rfl; simp; done) | (refine hd ⟨15, .guard⟩ ?_ rfl; simp; done) | (refine hd ⟨15, .phase⟩ ?_ rfl; simp; done) | (refine hd ⟨15, .chain⟩ ?_ rfl; simp; done))
      have hd20 : L 20 = true := (by first | (refine hd ⟨20, .data⟩ ?_ rfl; simp; done) | (refine hd ⟨20, .guard⟩ ?_ rfl; simp; done) | (refine hd ⟨20, .phase⟩ ?_ rfl; simp; done) | (refine hd ⟨20, .chain⟩ ?_ rfl; simp; done))
      have hd21 : L 21 = true := (by first | (refine hd ⟨21, .data⟩ ?_ rfl; simp; done) | (refine hd ⟨21, .guard⟩ ?_ rfl; simp; done) | (refine hd ⟨21, .phase⟩ ?_ rfl; simp; done) | (refine hd ⟨21, .chain⟩ ?_ rfl; simp; done))
      have e15 := c15 hd15
      rw [e15] at hK
      have e20 := c20 hd20
      rw [e20] at hK
      have e21 := c21 hd21
      rw [e21] at hK
      clear hd15
      clear hd20
      clear hd21
      clear hd
      go_simp
      have hb : Below W.heap.size W (W.alloc (.cells #[.int .i64 pp1, .int .i64 pp2, .int .i64 pp3, .int .i64 qq1, .int .i64 qq2, .int .i64 qq3] 25)) := (Below.refl _ W).alloc (Nat.le_refl _) _
      refine hK _ _ ?_ (fun h => by cases h)
      intro s hs
      cases hs
      exact ⟨hB.trans (hb.mono hB.size), c0, c1, c2, c3, c4, c5, c6, (fun h k => (c7 h k).keep hb), c8, c9, c10, (fun h k => (c11 h k).keep hb), c12, c13, c14, c15, c16, c17, (fun h k => (c18 h k).keep hb), c19, c20, c21, (fun _ _ => ⟨_, rfl, Lok.new _ _ _⟩), c23, c24, c25, c26⟩
    case s23r1 =>
      rintro L u W ⟨hB, c0, c1, c2, c3, c4, c5, c6, c7, c8, c9, c10, c11, c12, c13, c14, c15, c16, c17, c18, c19, c20, c21, c22, c23, c24, c25, c26⟩ hf hd K hK
      dsimp only at hK
      have hd15 : L 15 = true := (by first | (refine hd ⟨15, .data⟩ ?_ rfl; simp; done) | (refine hd ⟨15, .guard⟩ ?_ rfl; simp; done) | (refine hd ⟨15, .phase⟩ ?_ rfl; simp; done) | (refine hd ⟨15, .chain⟩ ?_ rfl; simp; done))
      have hd22 : L 22 = true := (by first | (refine hd ⟨22, .data⟩ ?_ rfl; simp; done) | (refine hd ⟨22, .guard⟩ ?_ rfl; simp; done) | (refine hd ⟨22, .phase⟩ ?_ rfl; simp; done) | (refine hd ⟨22, .chain⟩ ?_ rfl; simp; done))
      have e15 := c15 hd15
      rw [e15] at hK
      have e22 := c22 hd22 (by first | exact hf | assumption)
      clear hd15
      clear hd22
      obtain ⟨g, eg, hl⟩ := e22; rw [eg] at hK
      clear hd
      go_simp
      go_wp2_with (go_at_call 22; ((with_reducible refine (R4.out g _ _ hl).mono ?_); rintro e w5 ⟨rfl, hb⟩))
      refine hK _ _ ?_ (fun h => by cases h)
      intro s hs
      cases hs
      exact ⟨hB.trans (hb.mono hB.size), c0, c1, c2, c3, c4, c5, c6, (fun h k => (c7 h k).keep hb), c8, c9, c10, (fun h k => (c11 h k).keep hb), c12, c13, c14, c15, c16, c17, (fun h k => (c18 h k).keep hb), c19, c20, c21, (fun _ h => by cases h), (fun _ => rfl), c24, c25, c26⟩
    case s24r1 =>
      rintro L u W ⟨hB, c0, c1, c2, c3, c4, c5, c6, c7, c8, c9, c10, c11, c12, c13, c14, c15, c16, c17, c18, c19, c20, c21, c22, c23, c24, c25, c26⟩ hf hd K hK
      dsimp only at hK
      have hd15 : L 15 = true := (by first | (refine hd ⟨15, .data⟩ ?_ rfl; simp; done) | (refine hd ⟨15, .guard⟩ ?_ rfl; simp; done) | (refine hd ⟨15, .phase⟩ ?_ rfl; simp; done) | (refine hd ⟨15, .chain⟩ ?_ rfl; simp; done))
      have hd19 : L 19 = true := (by first | (refine hd ⟨19, .data⟩ ?_ rfl; simp; done) | (refine hd ⟨19, .guard⟩ ?_ rfl; simp; done) | (refine hd ⟨19, .phase⟩ ?_ rfl; simp; done) | (refine hd ⟨19, .chain⟩ ?_ rfl; simp; done))
      have hd23 : L 23 = true := (by first | (refine hd ⟨23, .data⟩ ?_ rfl; simp; done) | (refine hd ⟨23, .guard⟩ ?_ rfl; simp; done) | (refine hd ⟨23, .phase⟩ ?_ rfl; simp; done) | (refine hd ⟨23, .chain⟩ ?_ rfl; simp; done))
      have e15 := c15 hd15
      rw [e15] at hK
      have e19 := c19 hd19
      rw [e19] at hK
      have e23 := c23 hd23
      rw [e23] at hK
      clear hd15
      clear hd19
      clear hd23
      clear hd
      go_simp
      refine hK _ _ ?_ (fun h => by cases h)
      intro s hs
      cases hs
      exact ⟨hB, c0, c1, c2, c3, c4, c5, c6, c7, c8, c9, c10, c11, c12, c13, c14, c15, c16, c17, c18, c19, c20, c21, c22, c23, (fun _ => rfl), c25, c26⟩
    case s25r1 =>
      rintro L u W ⟨hB, c0, c1, c2, c3, c4, c5, c6, c7, c8, c9, c10, c11, c12, c13, c14, c15, c16, c17, c18, c19, c20, c21, c22, c23, c24, c25, c26⟩ hf hd K hK
      dsimp only at hK
      have hd15 : L 15 = true := (by first | (refine hd ⟨15, .data⟩ ?_ rfl; simp; done) | (refine hd ⟨15, .guard⟩ ?_ rfl; simp; done) | (refine hd ⟨15, .phase⟩ ?_ rfl; simp; done) | (refine hd ⟨15, .chain⟩ ?_ rfl; simp; done))
      have hd24 : L 24 = true := (by first | (refine hd ⟨24, .data⟩ ?_ rfl; simp; done) | (refine hd ⟨24, .guard⟩ ?_ rfl; simp; done) | (refine hd ⟨24, .phase⟩ ?_ rfl; simp; done) | (refine hd ⟨24, .chain⟩ ?_ rfl; simp; done))
      have e15 := c15 hd15
      rw [e15] at hK
      have e24 := c24 hd24
      rw [e24] at hK
      clear hd15
      clear hd24
      clear hd
      go_simp
      refine hK _ _ ?_ (fun h => by cases h)
      intro s hs
      cases hs
      exact ⟨hB, c0, c1, c2, c3, c4, c5, c6, c7, c8, c9, c10, c11, c12, c13, c14, c15, c16, c17, c18, c19, c20, c21, c22, c23, c24, (fun _ => rfl), c26⟩
    case s26r1 =>
      rintro L u W ⟨hB, c0, c1, c2, c3, c4, c5, c6, c7, c8, c9, c10, c11, c12, c13, c14, c15, c16, c17, c18, c19, c20, c21, c22, c23, c24, c25, c26⟩ hf hd K hK
      dsimp only at hK
      have hd25 : L 25 = true := (by first | (refine hd ⟨25, .data⟩ ?_ rfl; simp; done) | (refine hd ⟨25, .guard⟩ ?_ rfl; simp; done) | (refine hd ⟨25, .phase⟩ ?_ rfl; simp; done) | (refine hd ⟨25, .chain⟩ ?_ rfl; simp; done))
      have e25 := c25 hd25
      rw [e25] at hK
      clear hd25
      clear hd
      go_simp
      refine hK _ _ ?_ (fun h => by cases h)
      intro s hs
      cases hs
      exact ⟨hB, c0, c1, c2, c3, c4, c5, c6, c7, c8, c9, c10, c11, c12, c13, c14, c15, c16, c17, c18, c19, c20, c21, c22, c23, c24, c25, (fun _ => rfl)⟩
  case finr1 =>
    rintro L u W hL ⟨hB, c0, c1, c2, c3, c4, c5, c6, c7, c8, c9, c10, c11, c12, c13, c14, c15, c16, c17, c18, c19, c20, c21, c22, c23, c24, c25, c26⟩
    have e0 := c0 (hL 0 (by decide))
    have e1 := c1 (hL 1 (by decide))
    have e2 := c2 (hL 2 (by decide))
    have e3 := c3 (hL 3 (by decide))
    have e4 := c4 (hL 4 (by decide))
    have e5 := c5 (hL 5 (by decide))
    have e6 := c6 (hL 6 (by decide))
    have e8 := c8 (hL 8 (by decide))
    have e9 := c9 (hL 9 (by decide))
    have e10 := c10 (hL 10 (by decide))
    have e12 := c12 (hL 12 (by decide))
    have e13 := c13 (hL 13 (by decide))
    have e14 := c14 (hL 14 (by decide))
    have e15 := c15 (hL 15 (by decide))
    have e16 := c16 (hL 16 (by decide))
    have e17 := c17 (hL 17 (by decide))
    have e19 := c19 (hL 19 (by decide))
    have e20 := c20 (hL 20 (by decide))
    have e21 := c21 (hL 21 (by decide))
    have e23 := c23 (hL 23 (by decide))
    have e24 := c24 (hL 24 (by decide))
    have e25 := c25 (hL 25 (by decide))
    have e26 := c26 (hL 26 (by decide))
    clear hL c0 c1 c2 c3 c4 c5 c6 c7 c8 c9 c10 c11 c12 c13 c14 c15 c16 c17 c18 c19 c20 c21 c22 c23 c24 c25 c26
    try simp only [e0, e1, e2, e3, e4, e5, e6, e8, e9, e10, e12, e13, e14, e15, e16, e17, e19, e20, e21, e23, e24, e25, e26]
    clear e0 e1 e2 e3 e4 e5 e6 e8 e9 e10 e12 e13 e14 e15 e16 e17 e19 e20 e21 e23 e24 e25 e26
    go_wp2
    go_ret
    exact ⟨rfl, HB.out.trans (hB.mono HB.out.size)⟩
theorem law_does (aa1 aa2 bb1 bb2 cc1 cc2 pp1 pp2 pp3 qq1 qq2 qq3 rr1 rr2 rr3 ss1 ss2 ss3 : Int) (w : World) :
    Calls Try.prog 3 #[.agg #[.int .i64 aa1, .int .i64 aa2], .agg #[.int .i64 bb1, .int .i64 bb2], .agg #[.int .i64 cc1, .int .i64 cc2], .agg #[.int .i64 pp1, .int .i64 pp2, .int .i64 pp3], .agg #[.int .i64 qq1, .int .i64 qq2, .int .i64 qq3], .agg #[.int .i64 rr1, .int .i64 rr2, .int .i64 rr3], .agg #[.int .i64 ss1, .int .i64 ss2, .int .i64 ss3]] w fun e' w' => e' = .returned (.bool true) ∧ Below w.heap.size w w' :=
  law_does_at aa1 aa2 bb1 bb2 cc1 cc2 pp1 pp2 pp3 qq1 qq2 qq3 rr1 rr2 rr3 ss1 ss2 ss3 _ _ _ _ _ _ _ _ _ _ _ _ _ _ w
    (Lib.hid fun W => area_any aa1 aa2 bb1 bb2 cc1 cc2 (s2 aa1 aa2 && s2 bb1 bb2 && s2 cc1 cc2) rfl W) (Lib.hid fun W => sideOf_any aa1 aa2 bb1 bb2 cc1 cc2 (s2 aa1 aa2 && s2 bb1 bb2 && s2 cc1 cc2) rfl W) (Lib.hid fun W => volume_any pp1 pp2 pp3 qq1 qq2 qq3 rr1 rr2 rr3 ss1 ss2 ss3 (s3 pp1 pp2 pp3 && s3 qq1 qq2 qq3 && s3 rr1 rr2 rr3 && s3 ss1 ss2 ss3) rfl W) (Lib.hid fun W => normal_any pp1 pp2 pp3 qq1 qq2 qq3 rr1 rr2 rr3 (s3 pp1 pp2 pp3 && s3 qq1 qq2 qq3 && s3 rr1 rr2 rr3) rfl W) (Lib.hid fun W => facing_any pp1 pp2 pp3 qq1 qq2 qq3 rr1 rr2 rr3 (s3 pp1 pp2 pp3 && s3 qq1 qq2 qq3 && s3 rr1 rr2 rr3) rfl W)
    (Lib.hid fun W => rarea_any aa1 aa2 bb1 bb2 cc1 cc2 (s2 aa1 aa2 && s2 bb1 bb2 && s2 cc1 cc2) rfl W) (Lib.hid fun W => rsideOf_any aa1 aa2 bb1 bb2 cc1 cc2 (s2 aa1 aa2 && s2 bb1 bb2 && s2 cc1 cc2) rfl W) (Lib.hid fun W => rvolume_any pp1 pp2 pp3 qq1 qq2 qq3 rr1 rr2 rr3 ss1 ss2 ss3 (s3 pp1 pp2 pp3 && s3 qq1 qq2 qq3 && s3 rr1 rr2 rr3 && s3 ss1 ss2 ss3) rfl W) (Lib.hid fun W => rnormal_any pp1 pp2 pp3 qq1 qq2 qq3 rr1 rr2 rr3 (s3 pp1 pp2 pp3 && s3 qq1 qq2 qq3 && s3 rr1 rr2 rr3) rfl W) (Lib.hid fun W => rfacing_any pp1 pp2 pp3 qq1 qq2 qq3 rr1 rr2 rr3 (s3 pp1 pp2 pp3 && s3 qq1 qq2 qq3 && s3 rr1 rr2 rr3) rfl W)
    (Lib.hid fun g T W q => small2_2 aa1 aa2 bb1 bb2 _ rfl g T W q) (Lib.hid fun g T W q => rall2_two aa1 aa2 bb1 bb2 g T W q) (Lib.hid fun g T W q => small3_2 pp1 pp2 pp3 qq1 qq2 qq3 _ rfl g T W q) (Lib.hid fun g T W q => rall3_two pp1 pp2 pp3 qq1 qq2 qq3 g T W q)
end Go.Proofs.Yticjljbglimgeaa
