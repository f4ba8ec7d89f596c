/-
  The laws of package sign: the rows that they share; SignTurns, SignParts. (gen/SgL.py)
-/
import Derived.Test.YticjljbglimgeaaSgD
namespace Go.Proofs.Yticjljbglimgeaa
open Go.RowKit

theorem gA1 (W : World) : Calls Try.prog 8 #[.agg #[.int .i64 0, .int .i64 0], .agg #[.int .i64 2, .int .i64 0], .agg #[.int .i64 0, .int .i64 3]] W fun e' w' => e' = .returned (.tuple #[.int .i64 6, .int .i64 0]) ∧ Below W.heap.size W w' := by
  have h := area_any 0 0 2 0 0 3 true (by decide) W
  exact h
theorem gS1 (W : World) : Calls Try.prog 10 #[.agg #[.int .i64 0, .int .i64 0], .agg #[.int .i64 0, .int .i64 1], .agg #[.int .i64 1, .int .i64 0]] W fun e' w' => e' = .returned (.tuple #[.int .i64 (-1), .int .i64 0]) ∧ Below W.heap.size W w' := by
  have h := sideOf_any 0 0 0 1 1 0 true (by decide) W
  exact h
theorem gV1 (W : World) : Calls Try.prog 12 #[.agg #[.int .i64 0, .int .i64 0, .int .i64 0], .agg #[.int .i64 1, .int .i64 0, .int .i64 0], .agg #[.int .i64 0, .int .i64 1, .int .i64 0], .agg #[.int .i64 5, .int .i64 5, .int .i64 (-7)]] W fun e' w' => e' = .returned (.tuple #[.int .i64 (-7), .int .i64 0]) ∧ Below W.heap.size W w' := by
  have h := volume_any 0 0 0 1 0 0 0 1 0 5 5 (-7) true (by decide) W
  exact h
theorem gF1 (W : World) : Calls Try.prog 16 #[.agg #[.int .i64 0, .int .i64 0, .int .i64 0], .agg #[.int .i64 1, .int .i64 0, .int .i64 0], .agg #[.int .i64 0, .int .i64 1, .int .i64 0]] W fun e' w' => e' = .returned (.tuple #[.int .i64 2, .int .i64 1, .int .i64 0]) ∧ Below W.heap.size W w' := by
  have h := facing_any 0 0 0 1 0 0 0 1 0 true (by decide) W
  exact h
theorem gS2 (W : World) : Calls Try.prog 10 #[.agg #[.int .i64 4097, .int .i64 0], .agg #[.int .i64 0, .int .i64 0], .agg #[.int .i64 0, .int .i64 0]] W fun e' w' => e' = .returned (.tuple #[.int .i64 0, .int .i64 5]) ∧ Below W.heap.size W w' := by
  have h := sideOf_any 4097 0 0 0 0 0 false (by decide) W
  exact h
theorem gF2 (W : World) : Calls Try.prog 16 #[.agg #[.int .i64 0, .int .i64 0, .int .i64 0], .agg #[.int .i64 0, .int .i64 0, .int .i64 0], .agg #[.int .i64 0, .int .i64 0, .int .i64 0]] W fun e' w' => e' = .returned (.tuple #[.int .i64 0, .int .i64 0, .int .i64 3]) ∧ Below W.heap.size W w' := by
  have h := facing_any 0 0 0 0 0 0 0 0 0 true (by decide) W
  exact h
theorem gI3 (g : Nat) (T : TypeId) (W : World) (h : Lok W g T #[.int .i64 0, .int .i64 0, .int .i64 16384]) : Calls Try.prog 21 #[.slice (some ⟨g, 0, none⟩) 1 1] W fun e w' => e = .returned (.bool true) ∧ Below W.heap.size W w' :=
  small3_1 0 0 16384 true (by decide) g T W h
set_option maxRecDepth 100000 in
set_option maxHeartbeats 4000000 in
theorem sided_any (w : World) :
    Calls Try.prog 18 #[] w fun e w' => e = .returned (.bool true) ∧ Below w.heap.size w w' := by
  have HB := Lib.hid (Below.refl w.heap.size w)
  go_enter Try.func18, Try.ntmps18
  go_wp2_with fail
  (((with_reducible refine (gA1 _).mono ?_); rintro e w1 ⟨rfl, hb1⟩); replace HB := Lib.hid (HB.out.trans (hb1.mono HB.out.size)); clear hb1)
  go_wp2_with fail
  (((with_reducible refine (gS1 _).mono ?_); rintro e w2 ⟨rfl, hb2⟩); replace HB := Lib.hid (HB.out.trans (hb2.mono HB.out.size)); clear hb2)
  go_wp2_with fail
  (((with_reducible refine (gV1 _).mono ?_); rintro e w3 ⟨rfl, hb3⟩); replace HB := Lib.hid (HB.out.trans (hb3.mono HB.out.size)); clear hb3)
  go_wp2_with fail
  (((with_reducible refine (gF1 _).mono ?_); rintro e w4 ⟨rfl, hb4⟩); replace HB := Lib.hid (HB.out.trans (hb4.mono HB.out.size)); clear hb4)
  go_wp2_with fail
  (((with_reducible refine (gS2 _).mono ?_); rintro e w5 ⟨rfl, hb5⟩); replace HB := Lib.hid (HB.out.trans (hb5.mono HB.out.size)); clear hb5)
  go_wp2_with fail
  (((with_reducible refine (gF2 _).mono ?_); rintro e w6 ⟨rfl, hb6⟩); replace HB := Lib.hid (HB.out.trans (hb6.mono HB.out.size)); clear hb6)
  go_wp2_with fail
  (((with_reducible refine (small2_none _).mono ?_); rintro e w7 ⟨rfl, hb7⟩); replace HB := Lib.hid (HB.out.trans (hb7.mono HB.out.size)); clear hb7)
  go_wp2_with fail
  have hbr := below_new1 w7 (.cells #[.int .i64 0, .int .i64 0, .int .i64 16384] 25)
  have zr : (w7.alloc (.cells #[.int .i64 0, .int .i64 0, .int .i64 16384] 25)).heap.size = w7.heap.size + 1 := by simp
  replace HB := Lib.hid (HB.out.trans (hbr.mono HB.out.size))
  have kr := Lib.hid (Lok.new w7 25 #[.int .i64 0, .int .i64 0, .int .i64 16384])
  clear hbr
  generalize w7.alloc (.cells #[.int .i64 0, .int .i64 0, .int .i64 16384] 25) = Vr at *
  clear zr
  generalize w7.heap.size = gr at *
  (((with_reducible refine (gI3 _ _ _ kr.out).mono ?_); rintro e w8 ⟨rfl, hb8⟩); replace HB := Lib.hid (HB.out.trans (hb8.mono HB.out.size)); clear hb8)
  go_wp2
  go_ret
  exact ⟨rfl, HB.out⟩
set_option maxRecDepth 100000 in
set_option maxHeartbeats 8000000 in
theorem law_turns_at (a1 a2 b1 b2 c1 c2 p1 p2 p3 q1 q2 q3 r1 r2 r3 x e k1 k2 k3 h : Int) (w : World)
    (A1 : Hid (∀ W, Calls Try.prog 8 #[.agg #[.int .i64 a1, .int .i64 a2], .agg #[.int .i64 b1, .int .i64 b2], .agg #[.int .i64 c1, .int .i64 c2]] W fun e' w' => e' = .returned (.tuple #[.int .i64 x, .int .i64 e]) ∧ Below W.heap.size W w'))
    (A2 : Hid (∀ W, Calls Try.prog 8 #[.agg #[.int .i64 b1, .int .i64 b2], .agg #[.int .i64 c1, .int .i64 c2], .agg #[.int .i64 a1, .int .i64 a2]] W fun e' w' => e' = .returned (.tuple #[.int .i64 x, .int .i64 e]) ∧ Below W.heap.size W w'))
    (A3 : Hid (∀ W, Calls Try.prog 8 #[.agg #[.int .i64 b1, .int .i64 b2], .agg #[.int .i64 a1, .int .i64 a2], .agg #[.int .i64 c1, .int .i64 c2]] W fun e' w' => e' = .returned (.tuple #[.int .i64 (-x), .int .i64 e]) ∧ Below W.heap.size W w'))
    (N1 : Hid (∀ W, Calls Try.prog 14 #[.agg #[.int .i64 p1, .int .i64 p2, .int .i64 p3], .agg #[.int .i64 q1, .int .i64 q2, .int .i64 q3], .agg #[.int .i64 r1, .int .i64 r2, .int .i64 r3]] W fun e' w' => e' = .returned (.tuple #[.agg #[.int .i64 k1, .int .i64 k2, .int .i64 k3], .int .i64 h]) ∧ Below W.heap.size W w'))
    (N2 : Hid (∀ W, Calls Try.prog 14 #[.agg #[.int .i64 q1, .int .i64 q2, .int .i64 q3], .agg #[.int .i64 r1, .int .i64 r2, .int .i64 r3], .agg #[.int .i64 p1, .int .i64 p2, .int .i64 p3]] W fun e' w' => e' = .returned (.tuple #[.agg #[.int .i64 k1, .int .i64 k2, .int .i64 k3], .int .i64 h]) ∧ Below W.heap.size W w'))
    (N3 : Hid (∀ W, Calls Try.prog 14 #[.agg #[.int .i64 q1, .int .i64 q2, .int .i64 q3], .agg #[.int .i64 p1, .int .i64 p2, .int .i64 p3], .agg #[.int .i64 r1, .int .i64 r2, .int .i64 r3]] W fun e' w' => e' = .returned (.tuple #[.agg #[.int .i64 (-k1), .int .i64 (-k2), .int .i64 (-k3)], .int .i64 h]) ∧ Below W.heap.size W w')) :
    Calls Try.prog 4 #[.agg #[.int .i64 a1, .int .i64 a2], .agg #[.int .i64 b1, .int .i64 b2], .agg #[.int .i64 c1, .int .i64 c2], .agg #[.int .i64 p1, .int .i64 p2, .int .i64 p3], .agg #[.int .i64 q1, .int .i64 q2, .int .i64 q3], .agg #[.int .i64 r1, .int .i64 r2, .int .i64 r3]] w fun e' w' => e' = .returned (.bool true) ∧ Below w.heap.size w w' := by
  have HB := Lib.hid (Below.refl w.heap.size w)
  have o0 : x + -x = 0 := by omega
  have o1 : k1 + -k1 = 0 := by omega
  have o2 : k2 + -k2 = 0 := by omega
  have o3 : k3 + -k3 = 0 := by omega
  go_enter Try.func4, Try.ntmps4
  go_upto_region 1 with fail
  have hbx := below_new1 w (.cells #[.int .i64 a1, .int .i64 a2] 23)
  have zx : (w.alloc (.cells #[.int .i64 a1, .int .i64 a2] 23)).heap.size = w.heap.size + 1 := by simp
  have HB := Lib.hid hbx
  have kx := Lib.hid (Lok.new w 23 #[.int .i64 a1, .int .i64 a2])
  clear hbx
  generalize w.alloc (.cells #[.int .i64 a1, .int .i64 a2] 23) = Vx at *
  have hby := below_new1 Vx (.cells #[.int .i64 b1, .int .i64 b2] 23)
  replace kx := Lib.hid (kx.out.keep hby)
  have zy : (Vx.alloc (.cells #[.int .i64 b1, .int .i64 b2] 23)).heap.size = Vx.heap.size + 1 := by simp
  replace HB := Lib.hid (HB.out.trans (hby.mono HB.out.size))
  have ky := Lib.hid (Lok.new Vx 23 #[.int .i64 b1, .int .i64 b2])
  clear hby
  generalize Vx.alloc (.cells #[.int .i64 b1, .int .i64 b2] 23) = Vy at *
  rw [zx] at ky zy
  have hbz := below_new1 Vy (.cells #[.int .i64 c1, .int .i64 c2] 23)
  replace kx := Lib.hid (kx.out.keep hbz)
  replace ky := Lib.hid (ky.out.keep hbz)
  have zz : (Vy.alloc (.cells #[.int .i64 c1, .int .i64 c2] 23)).heap.size = Vy.heap.size + 1 := by simp
  replace HB := Lib.hid (HB.out.trans (hbz.mono HB.out.size))
  have kz := Lib.hid (Lok.new Vy 23 #[.int .i64 c1, .int .i64 c2])
  clear hbz
  generalize Vy.alloc (.cells #[.int .i64 c1, .int .i64 c2] 23) = Vz at *
  rw [zy] at kz zz
  have hbp := below_new1 Vz (.cells #[.int .i64 p1, .int .i64 p2, .int .i64 p3] 25)
  replace kx := Lib.hid (kx.out.keep hbp)
  replace ky := Lib.hid (ky.out.keep hbp)
  replace kz := Lib.hid (kz.out.keep hbp)
  have zp : (Vz.alloc (.cells #[.int .i64 p1, .int .i64 p2, .int .i64 p3] 25)).heap.size = Vz.heap.size + 1 := by simp
  replace HB := Lib.hid (HB.out.trans (hbp.mono HB.out.size))
  have kp := Lib.hid (Lok.new Vz 25 #[.int .i64 p1, .int .i64 p2, .int .i64 p3])
  clear hbp
  generalize Vz.alloc (.cells #[.int .i64 p1, .int .i64 p2, .int .i64 p3] 25) = Vp at *
  rw [zz] at kp zp
  have hbq := below_new1 Vp (.cells #[.int .i64 q1, .int .i64 q2, .int .i64 q3] 25)
  replace kx := Lib.hid (kx.out.keep hbq)
  replace ky := Lib.hid (ky.out.keep hbq)
  replace kz := Lib.hid (kz.out.keep hbq)
  replace kp := Lib.hid (kp.out.keep hbq)
  have zq : (Vp.alloc (.cells #[.int .i64 q1, .int .i64 q2, .int .i64 q3] 25)).heap.size = Vp.heap.size + 1 := by simp
  replace HB := Lib.hid (HB.out.trans (hbq.mono HB.out.size))
  have kq := Lib.hid (Lok.new Vp 25 #[.int .i64 q1, .int .i64 q2, .int .i64 q3])
  clear hbq
  generalize Vp.alloc (.cells #[.int .i64 q1, .int .i64 q2, .int .i64 q3] 25) = Vq at *
  rw [zp] at kq zq
  have hbr := below_new1 Vq (.cells #[.int .i64 r1, .int .i64 r2, .int .i64 r3] 25)
  replace kx := Lib.hid (kx.out.keep hbr)
  replace ky := Lib.hid (ky.out.keep hbr)
  replace kz := Lib.hid (kz.out.keep hbr)
  replace kp := Lib.hid (kp.out.keep hbr)
  replace kq := Lib.hid (kq.out.keep hbr)
  have zr : (Vq.alloc (.cells #[.int .i64 r1, .int .i64 r2, .int .i64 r3] 25)).heap.size = Vq.heap.size + 1 := by simp
  replace HB := Lib.hid (HB.out.trans (hbr.mono HB.out.size))
  have kr := Lib.hid (Lok.new Vq 25 #[.int .i64 r1, .int .i64 r2, .int .i64 r3])
  clear hbr
  generalize Vq.alloc (.cells #[.int .i64 r1, .int .i64 r2, .int .i64 r3] 25) = Vr at *
  rw [zq] at kr
  clear zx zy zz zp zq zr
  have x0 := kx.out.cell (i := 0) rfl
  have x1 := kx.out.cell (i := 1) rfl
  have y0 := ky.out.cell (i := 0) rfl
  have y1 := ky.out.cell (i := 1) rfl
  have z0 := kz.out.cell (i := 0) rfl
  have z1 := kz.out.cell (i := 1) rfl
  go_wp2_with fail
  clear x0 x1 y0 y1 z0 z1
  (((with_reducible refine (A1.out _).mono ?_); rintro e w1 ⟨rfl, hb1⟩); replace HB := Lib.hid (HB.out.trans (hb1.mono HB.out.size)); replace kx := Lib.hid (kx.out.keep hb1); replace ky := Lib.hid (ky.out.keep hb1); replace kz := Lib.hid (kz.out.keep hb1); replace kp := Lib.hid (kp.out.keep hb1); replace kq := Lib.hid (kq.out.keep hb1); replace kr := Lib.hid (kr.out.keep hb1); clear hb1)
  have x0 := kx.out.cell (i := 0) rfl
  have x1 := kx.out.cell (i := 1) rfl
  have y0 := ky.out.cell (i := 0) rfl
  have y1 := ky.out.cell (i := 1) rfl
  have z0 := kz.out.cell (i := 0) rfl
  have z1 := kz.out.cell (i := 1) rfl
  go_wp2_with fail
  clear x0 x1 y0 y1 z0 z1
  (((with_reducible refine (A2.out _).mono ?_); rintro e w2 ⟨rfl, hb2⟩); replace HB := Lib.hid (HB.out.trans (hb2.mono HB.out.size)); replace kx := Lib.hid (kx.out.keep hb2); replace ky := Lib.hid (ky.out.keep hb2); replace kz := Lib.hid (kz.out.keep hb2); replace kp := Lib.hid (kp.out.keep hb2); replace kq := Lib.hid (kq.out.keep hb2); replace kr := Lib.hid (kr.out.keep hb2); clear hb2)
  have x0 := kx.out.cell (i := 0) rfl
  have x1 := kx.out.cell (i := 1) rfl
  have y0 := ky.out.cell (i := 0) rfl
  have y1 := ky.out.cell (i := 1) rfl
  have z0 := kz.out.cell (i := 0) rfl
  have z1 := kz.out.cell (i := 1) rfl
  go_wp2_with fail
  clear x0 x1 y0 y1 z0 z1
  (((with_reducible refine (A3.out _).mono ?_); rintro e w3 ⟨rfl, hb3⟩); replace HB := Lib.hid (HB.out.trans (hb3.mono HB.out.size)); replace kx := Lib.hid (kx.out.keep hb3); replace ky := Lib.hid (ky.out.keep hb3); replace kz := Lib.hid (kz.out.keep hb3); replace kp := Lib.hid (kp.out.keep hb3); replace kq := Lib.hid (kq.out.keep hb3); replace kr := Lib.hid (kr.out.keep hb3); clear hb3)
  have p0 := kp.out.cell (i := 0) rfl
  have p1 := kp.out.cell (i := 1) rfl
  have p2 := kp.out.cell (i := 2) rfl
  have q0 := kq.out.cell (i := 0) rfl
  have q1 := kq.out.cell (i := 1) rfl
  have q2 := kq.out.cell (i := 2) rfl
  have r0 := kr.out.cell (i := 0) rfl
  have r1 := kr.out.cell (i := 1) rfl
  have r2 := kr.out.cell (i := 2) rfl
  go_wp2_with fail
  clear p0 p1 p2 q0 q1 q2 r0 r1 r2
  ((with_reducible refine (N1.out _).mono ?_); rintro e wm ⟨rfl, hbm⟩)
  replace HB := Lib.hid (HB.out.trans (hbm.mono HB.out.size))
  replace kp := Lib.hid (kp.out.keep hbm)
  replace kq := Lib.hid (kq.out.keep hbm)
  replace kr := Lib.hid (kr.out.keep hbm)
  clear hbm
  go_upto_region 7 with fail
  have hbm := below_new1 wm (.cells #[.int .i64 k1, .int .i64 k2, .int .i64 k3] 25)
  replace HB := Lib.hid (HB.out.trans (hbm.mono HB.out.size))
  replace kp := Lib.hid (kp.out.keep hbm)
  replace kq := Lib.hid (kq.out.keep hbm)
  replace kr := Lib.hid (kr.out.keep hbm)
  have km := Lib.hid (Lok.new wm 25 #[.int .i64 k1, .int .i64 k2, .int .i64 k3])
  clear hbm
  generalize wm.alloc (.cells #[.int .i64 k1, .int .i64 k2, .int .i64 k3] 25) = Vm at *
  generalize wm.heap.size = gm at *
  have p0 := kp.out.cell (i := 0) rfl
  have p1 := kp.out.cell (i := 1) rfl
  have p2 := kp.out.cell (i := 2) rfl
  have q0 := kq.out.cell (i := 0) rfl
  have q1 := kq.out.cell (i := 1) rfl
  have q2 := kq.out.cell (i := 2) rfl
  have r0 := kr.out.cell (i := 0) rfl
  have r1 := kr.out.cell (i := 1) rfl
  have r2 := kr.out.cell (i := 2) rfl
  go_wp2_with fail
  clear p0 p1 p2 q0 q1 q2 r0 r1 r2
  ((with_reducible refine (N2.out _).mono ?_); rintro e wn ⟨rfl, hbn⟩)
  replace HB := Lib.hid (HB.out.trans (hbn.mono HB.out.size))
  replace kp := Lib.hid (kp.out.keep hbn)
  replace kq := Lib.hid (kq.out.keep hbn)
  replace kr := Lib.hid (kr.out.keep hbn)
  replace km := Lib.hid (km.out.keep hbn)
  clear hbn
  go_upto_region 8 with fail
  have hbn := below_new1 wn (.cells #[.int .i64 k1, .int .i64 k2, .int .i64 k3] 25)
  replace HB := Lib.hid (HB.out.trans (hbn.mono HB.out.size))
  replace kp := Lib.hid (kp.out.keep hbn)
  replace kq := Lib.hid (kq.out.keep hbn)
  replace kr := Lib.hid (kr.out.keep hbn)
  replace km := Lib.hid (km.out.keep hbn)
  have kn := Lib.hid (Lok.new wn 25 #[.int .i64 k1, .int .i64 k2, .int .i64 k3])
  clear hbn
  generalize wn.alloc (.cells #[.int .i64 k1, .int .i64 k2, .int .i64 k3] 25) = Vn at *
  generalize wn.heap.size = gn at *
  have p0 := kp.out.cell (i := 0) rfl
  have p1 := kp.out.cell (i := 1) rfl
  have p2 := kp.out.cell (i := 2) rfl
  have q0 := kq.out.cell (i := 0) rfl
  have q1 := kq.out.cell (i := 1) rfl
  have q2 := kq.out.cell (i := 2) rfl
  have r0 := kr.out.cell (i := 0) rfl
  have r1 := kr.out.cell (i := 1) rfl
  have r2 := kr.out.cell (i := 2) rfl
  go_wp2_with fail
  clear p0 p1 p2 q0 q1 q2 r0 r1 r2
  ((with_reducible refine (N3.out _).mono ?_); rintro e wo ⟨rfl, hbo⟩)
  replace HB := Lib.hid (HB.out.trans (hbo.mono HB.out.size))
  replace kp := Lib.hid (kp.out.keep hbo)
  replace kq := Lib.hid (kq.out.keep hbo)
  replace kr := Lib.hid (kr.out.keep hbo)
  replace km := Lib.hid (km.out.keep hbo)
  replace kn := Lib.hid (kn.out.keep hbo)
  clear hbo
  go_upto_region 9 with fail
  have hbo := below_new1 wo (.cells #[.int .i64 (-k1), .int .i64 (-k2), .int .i64 (-k3)] 25)
  replace HB := Lib.hid (HB.out.trans (hbo.mono HB.out.size))
  replace kp := Lib.hid (kp.out.keep hbo)
  replace kq := Lib.hid (kq.out.keep hbo)
  replace kr := Lib.hid (kr.out.keep hbo)
  replace km := Lib.hid (km.out.keep hbo)
  replace kn := Lib.hid (kn.out.keep hbo)
  have ko := Lib.hid (Lok.new wo 25 #[.int .i64 (-k1), .int .i64 (-k2), .int .i64 (-k3)])
  clear hbo
  generalize wo.alloc (.cells #[.int .i64 (-k1), .int .i64 (-k2), .int .i64 (-k3)] 25) = Vo at *
  generalize wo.heap.size = go at *
  go_wp2_with fail
  (((with_reducible refine (sided_any _).mono ?_); rintro e w4 ⟨rfl, hb4⟩); replace HB := Lib.hid (HB.out.trans (hb4.mono HB.out.size)); replace km := Lib.hid (km.out.keep hb4); replace kn := Lib.hid (kn.out.keep hb4); replace ko := Lib.hid (ko.out.keep hb4); clear hb4)
  have qq := q3_self k1 k2 k3
  have m0 := km.out.cell (i := 0) rfl
  have m1 := km.out.cell (i := 1) rfl
  have m2 := km.out.cell (i := 2) rfl
  have n0 := kn.out.cell (i := 0) rfl
  have n1 := kn.out.cell (i := 1) rfl
  have n2 := kn.out.cell (i := 2) rfl
  have o0 := ko.out.cell (i := 0) rfl
  have o1 := ko.out.cell (i := 1) rfl
  have o2 := ko.out.cell (i := 2) rfl
  go_wp2
  go_ret
  exact ⟨rfl, HB.out⟩
theorem vF_neg (t : Bool) (v : Int) : vF t (-v) = -vF t v := by cases t <;> simp [vF]
theorem ar_turn (a b c d e f : Int) : ar c d e f a b = ar a b c d e f := by unfold ar; grind
theorem ar_swap (a b c d e f : Int) : ar c d a b e f = -ar a b c d e f := by unfold ar; grind
theorem law_turns (a1 a2 b1 b2 c1 c2 p1 p2 p3 q1 q2 q3 r1 r2 r3 : Int) (w : World) :
    Calls Try.prog 4 #[.agg #[.int .i64 a1, .int .i64 a2], .agg #[.int .i64 b1, .int .i64 b2], .agg #[.int .i64 c1, .int .i64 c2], .agg #[.int .i64 p1, .int .i64 p2, .int .i64 p3], .agg #[.int .i64 q1, .int .i64 q2, .int .i64 q3], .agg #[.int .i64 r1, .int .i64 r2, .int .i64 r3]] w fun e' w' => e' = .returned (.bool true) ∧ Below w.heap.size w w' := by
  refine law_turns_at a1 a2 b1 b2 c1 c2 p1 p2 p3 q1 q2 q3 r1 r2 r3 (vF (s2 a1 a2 && s2 b1 b2 && s2 c1 c2) (ar a1 a2 b1 b2 c1 c2)) (rE (s2 a1 a2 && s2 b1 b2 && s2 c1 c2)) (vF (s3 p1 p2 p3 && s3 q1 q2 q3 && s3 r1 r2 r3) (ar p2 p3 q2 q3 r2 r3)) (vF (s3 p1 p2 p3 && s3 q1 q2 q3 && s3 r1 r2 r3) (ar p3 p1 q3 q1 r3 r1)) (vF (s3 p1 p2 p3 && s3 q1 q2 q3 && s3 r1 r2 r3) (ar p1 p2 q1 q2 r1 r2)) (rE (s3 p1 p2 p3 && s3 q1 q2 q3 && s3 r1 r2 r3)) w
    (Lib.hid fun W => area_any _ _ _ _ _ _ _ rfl W) (Lib.hid fun W => ?_) (Lib.hid fun W => ?_) (Lib.hid fun W => normal_any _ _ _ _ _ _ _ _ _ _ rfl W) (Lib.hid fun W => ?_) (Lib.hid fun W => ?_)
  · have h := area_any b1 b2 c1 c2 a1 a2 (s2 a1 a2 && s2 b1 b2 && s2 c1 c2) (by cases s2 a1 a2 <;> cases s2 b1 b2 <;> cases s2 c1 c2 <;> rfl) W
    rw [ar_turn] at h
    exact h
  · have h := area_any b1 b2 a1 a2 c1 c2 (s2 a1 a2 && s2 b1 b2 && s2 c1 c2) (by cases s2 a1 a2 <;> cases s2 b1 b2 <;> cases s2 c1 c2 <;> rfl) W
    rw [ar_swap, vF_neg] at h
    exact h
  · have h := normal_any q1 q2 q3 r1 r2 r3 p1 p2 p3 (s3 p1 p2 p3 && s3 q1 q2 q3 && s3 r1 r2 r3) (by cases s3 p1 p2 p3 <;> cases s3 q1 q2 q3 <;> cases s3 r1 r2 r3 <;> rfl) W
    rw [ar_turn p2 p3 q2 q3 r2 r3, ar_turn p3 p1 q3 q1 r3 r1, ar_turn p1 p2 q1 q2 r1 r2] at h
    exact h
  · have h := normal_any q1 q2 q3 p1 p2 p3 r1 r2 r3 (s3 p1 p2 p3 && s3 q1 q2 q3 && s3 r1 r2 r3) (by cases s3 p1 p2 p3 <;> cases s3 q1 q2 q3 <;> cases s3 r1 r2 r3 <;> rfl) W
    rw [ar_swap p2 p3 q2 q3 r2 r3, ar_swap p3 p1 q3 q1 r3 r1, ar_swap p1 p2 q1 q2 r1 r2, vF_neg _ (ar p2 p3 q2 q3 r2 r3), vF_neg _ (ar p3 p1 q3 q1 r3 r1), vF_neg _ (ar p1 p2 q1 q2 r1 r2)] at h
    exact h
set_option maxRecDepth 100000 in
set_option maxHeartbeats 8000000 in
theorem law_parts_at (a1 a2 b1 b2 c1 c2 d1 d2 x y z v e f g i : Int) (u : Bool) (w : World)
    (A1 : Hid (∀ W, Calls Try.prog 8 #[.agg #[.int .i64 a1, .int .i64 a2], .agg #[.int .i64 b1, .int .i64 b2], .agg #[.int .i64 c1, .int .i64 c2]] W fun e' w' => e' = .returned (.tuple #[.int .i64 x, .int .i64 e]) ∧ Below W.heap.size W w'))
    (A2 : Hid (∀ W, Calls Try.prog 8 #[.agg #[.int .i64 a1, .int .i64 a2], .agg #[.int .i64 b1, .int .i64 b2], .agg #[.int .i64 d1, .int .i64 d2]] W fun e' w' => e' = .returned (.tuple #[.int .i64 y, .int .i64 f]) ∧ Below W.heap.size W w'))
    (A3 : Hid (∀ W, Calls Try.prog 8 #[.agg #[.int .i64 b1, .int .i64 b2], .agg #[.int .i64 c1, .int .i64 c2], .agg #[.int .i64 d1, .int .i64 d2]] W fun e' w' => e' = .returned (.tuple #[.int .i64 z, .int .i64 g]) ∧ Below W.heap.size W w'))
    (A4 : Hid (∀ W, Calls Try.prog 8 #[.agg #[.int .i64 c1, .int .i64 c2], .agg #[.int .i64 a1, .int .i64 a2], .agg #[.int .i64 d1, .int .i64 d2]] W fun e' w' => e' = .returned (.tuple #[.int .i64 v, .int .i64 i]) ∧ Below W.heap.size W w'))
    (S : Hid (∀ g T W, Lok W g T #[.int .i64 a1, .int .i64 a2, .int .i64 b1, .int .i64 b2, .int .i64 c1, .int .i64 c2, .int .i64 d1, .int .i64 d2] → Calls Try.prog 19 #[.slice (some ⟨g, 0, none⟩) 4 4] W fun e w' => e = .returned (.bool u) ∧ Below W.heap.size W w'))
    (h : (e = 5 ∧ u = false) ∨ (e = 0 ∧ f = 5 ∧ u = false) ∨ (e = 0 ∧ f = 0 ∧ g = 0 ∧ i = 0 ∧ IntKind.i64.wrap (y + z) = y + z ∧ IntKind.i64.wrap (y + z + v) = x)) :
    Calls Try.prog 5 #[.agg #[.int .i64 a1, .int .i64 a2], .agg #[.int .i64 b1, .int .i64 b2], .agg #[.int .i64 c1, .int .i64 c2], .agg #[.int .i64 d1, .int .i64 d2]] w fun e' w' => e' = .returned (.bool true) ∧ Below w.heap.size w w' := by
  have HB := Lib.hid (Below.refl w.heap.size w)
  rcases h with ⟨rfl, rfl⟩ | ⟨rfl, rfl, rfl⟩ | ⟨rfl, rfl, rfl, rfl, h1, h2⟩
  · go_enter Try.func5, Try.ntmps5
    go_upto_region 1 with fail
    have hbx := below_new1 w (.cells #[.int .i64 a1, .int .i64 a2] 23)
    have zx : (w.alloc (.cells #[.int .i64 a1, .int .i64 a2] 23)).heap.size = w.heap.size + 1 := by simp
    have HB := Lib.hid hbx
    have kx := Lib.hid (Lok.new w 23 #[.int .i64 a1, .int .i64 a2])
    clear hbx
    generalize w.alloc (.cells #[.int .i64 a1, .int .i64 a2] 23) = Vx at *
    have hby := below_new1 Vx (.cells #[.int .i64 b1, .int .i64 b2] 23)
    replace kx := Lib.hid (kx.out.keep hby)
    have zy : (Vx.alloc (.cells #[.int .i64 b1, .int .i64 b2] 23)).heap.size = Vx.heap.size + 1 := by simp
    replace HB := Lib.hid (HB.out.trans (hby.mono HB.out.size))
    have ky := Lib.hid (Lok.new Vx 23 #[.int .i64 b1, .int .i64 b2])
    clear hby
    generalize Vx.alloc (.cells #[.int .i64 b1, .int .i64 b2] 23) = Vy at *
    rw [zx] at ky zy
    have hbz := below_new1 Vy (.cells #[.int .i64 c1, .int .i64 c2] 23)
    replace kx := Lib.hid (kx.out.keep hbz)
    replace ky := Lib.hid (ky.out.keep hbz)
    have zz : (Vy.alloc (.cells #[.int .i64 c1, .int .i64 c2] 23)).heap.size = Vy.heap.size + 1 := by simp
    replace HB := Lib.hid (HB.out.trans (hbz.mono HB.out.size))
    have kz := Lib.hid (Lok.new Vy 23 #[.int .i64 c1, .int .i64 c2])
    clear hbz
    generalize Vy.alloc (.cells #[.int .i64 c1, .int .i64 c2] 23) = Vz at *
    rw [zy] at kz zz
    have hbt := below_new1 Vz (.cells #[.int .i64 d1, .int .i64 d2] 23)
    replace kx := Lib.hid (kx.out.keep hbt)
    replace ky := Lib.hid (ky.out.keep hbt)
    replace kz := Lib.hid (kz.out.keep hbt)
    have zt : (Vz.alloc (.cells #[.int .i64 d1, .int .i64 d2] 23)).heap.size = Vz.heap.size + 1 := by simp
    replace HB := Lib.hid (HB.out.trans (hbt.mono HB.out.size))
    have kt := Lib.hid (Lok.new Vz 23 #[.int .i64 d1, .int .i64 d2])
    clear hbt
    generalize Vz.alloc (.cells #[.int .i64 d1, .int .i64 d2] 23) = Vt at *
    rw [zz] at kt
    clear zx zy zz zt
    have x0 := kx.out.cell (i := 0) rfl
    have x1 := kx.out.cell (i := 1) rfl
    have y0 := ky.out.cell (i := 0) rfl
    have y1 := ky.out.cell (i := 1) rfl
    have z0 := kz.out.cell (i := 0) rfl
    have z1 := kz.out.cell (i := 1) rfl
    go_wp2_with fail
    clear x0 x1 y0 y1 z0 z1
    (((with_reducible refine (A1.out _).mono ?_); rintro e w1 ⟨rfl, hb1⟩); replace HB := Lib.hid (HB.out.trans (hb1.mono HB.out.size)); replace kx := Lib.hid (kx.out.keep hb1); replace ky := Lib.hid (ky.out.keep hb1); replace kz := Lib.hid (kz.out.keep hb1); replace kt := Lib.hid (kt.out.keep hb1); clear hb1)
    have x0 := kx.out.cell (i := 0) rfl
    have x1 := kx.out.cell (i := 1) rfl
    have y0 := ky.out.cell (i := 0) rfl
    have y1 := ky.out.cell (i := 1) rfl
    have t0 := kt.out.cell (i := 0) rfl
    have t1 := kt.out.cell (i := 1) rfl
    go_wp2_with fail
    clear x0 x1 y0 y1 t0 t1
    (((with_reducible refine (A2.out _).mono ?_); rintro e w2 ⟨rfl, hb2⟩); replace HB := Lib.hid (HB.out.trans (hb2.mono HB.out.size)); replace kx := Lib.hid (kx.out.keep hb2); replace ky := Lib.hid (ky.out.keep hb2); replace kz := Lib.hid (kz.out.keep hb2); replace kt := Lib.hid (kt.out.keep hb2); clear hb2)
    have y0 := ky.out.cell (i := 0) rfl
    have y1 := ky.out.cell (i := 1) rfl
    have z0 := kz.out.cell (i := 0) rfl
    have z1 := kz.out.cell (i := 1) rfl
    have t0 := kt.out.cell (i := 0) rfl
    have t1 := kt.out.cell (i := 1) rfl
    go_wp2_with fail
    clear y0 y1 z0 z1 t0 t1
    (((with_reducible refine (A3.out _).mono ?_); rintro e w3 ⟨rfl, hb3⟩); replace HB := Lib.hid (HB.out.trans (hb3.mono HB.out.size)); replace kx := Lib.hid (kx.out.keep hb3); replace ky := Lib.hid (ky.out.keep hb3); replace kz := Lib.hid (kz.out.keep hb3); replace kt := Lib.hid (kt.out.keep hb3); clear hb3)
    have z0 := kz.out.cell (i := 0) rfl
    have z1 := kz.out.cell (i := 1) rfl
    have x0 := kx.out.cell (i := 0) rfl
    have x1 := kx.out.cell (i := 1) rfl
    have t0 := kt.out.cell (i := 0) rfl
    have t1 := kt.out.cell (i := 1) rfl
    go_wp2_with fail
    clear z0 z1 x0 x1 t0 t1
    (((with_reducible refine (A4.out _).mono ?_); rintro e w4 ⟨rfl, hb4⟩); replace HB := Lib.hid (HB.out.trans (hb4.mono HB.out.size)); replace kx := Lib.hid (kx.out.keep hb4); replace ky := Lib.hid (ky.out.keep hb4); replace kz := Lib.hid (kz.out.keep hb4); replace kt := Lib.hid (kt.out.keep hb4); clear hb4)
    go_wp2_with fail
    (((with_reducible refine (sided_any _).mono ?_); rintro e w5 ⟨rfl, hb5⟩); replace HB := Lib.hid (HB.out.trans (hb5.mono HB.out.size)); replace kx := Lib.hid (kx.out.keep hb5); replace ky := Lib.hid (ky.out.keep hb5); replace kz := Lib.hid (kz.out.keep hb5); replace kt := Lib.hid (kt.out.keep hb5); clear hb5)
    have x0 := kx.out.cell (i := 0) rfl
    have x1 := kx.out.cell (i := 1) rfl
    have y0 := ky.out.cell (i := 0) rfl
    have y1 := ky.out.cell (i := 1) rfl
    have z0 := kz.out.cell (i := 0) rfl
    have z1 := kz.out.cell (i := 1) rfl
    have t0 := kt.out.cell (i := 0) rfl
    have t1 := kt.out.cell (i := 1) rfl
    go_wp2_with fail
    clear x0 x1 y0 y1 z0 z1 t0 t1
    have hbr := below_new1 w5 (.cells #[.int .i64 a1, .int .i64 a2, .int .i64 b1, .int .i64 b2, .int .i64 c1, .int .i64 c2, .int .i64 d1, .int .i64 d2] 23)
    replace kx := Lib.hid (kx.out.keep hbr)
    replace ky := Lib.hid (ky.out.keep hbr)
    replace kz := Lib.hid (kz.out.keep hbr)
    replace kt := Lib.hid (kt.out.keep hbr)
    have zr : (w5.alloc (.cells #[.int .i64 a1, .int .i64 a2, .int .i64 b1, .int .i64 b2, .int .i64 c1, .int .i64 c2, .int .i64 d1, .int .i64 d2] 23)).heap.size = w5.heap.size + 1 := by simp
    replace HB := Lib.hid (HB.out.trans (hbr.mono HB.out.size))
    have kr := Lib.hid (Lok.new w5 23 #[.int .i64 a1, .int .i64 a2, .int .i64 b1, .int .i64 b2, .int .i64 c1, .int .i64 c2, .int .i64 d1, .int .i64 d2])
    clear hbr
    generalize w5.alloc (.cells #[.int .i64 a1, .int .i64 a2, .int .i64 b1, .int .i64 b2, .int .i64 c1, .int .i64 c2, .int .i64 d1, .int .i64 d2] 23) = Vr at *
    clear zr
    generalize w5.heap.size = gr at *
    (((with_reducible refine (S.out _ _ _ kr.out).mono ?_); rintro e w6 ⟨rfl, hb6⟩); replace HB := Lib.hid (HB.out.trans (hb6.mono HB.out.size)); clear hb6)
    go_wp2
    go_ret
    exact ⟨rfl, HB.out⟩
  · go_enter Try.func5, Try.ntmps5
    go_upto_region 1 with fail
    have hbx := below_new1 w (.cells #[.int .i64 a1, .int .i64 a2] 23)
    have zx : (w.alloc (.cells #[.int .i64 a1, .int .i64 a2] 23)).heap.size = w.heap.size + 1 := by simp
    have HB := Lib.hid hbx
    have kx := Lib.hid (Lok.new w 23 #[.int .i64 a1, .int .i64 a2])
    clear hbx
    generalize w.alloc (.cells #[.int .i64 a1, .int .i64 a2] 23) = Vx at *
    have hby := below_new1 Vx (.cells #[.int .i64 b1, .int .i64 b2] 23)
    replace kx := Lib.hid (kx.out.keep hby)
    have zy : (Vx.alloc (.cells #[.int .i64 b1, .int .i64 b2] 23)).heap.size = Vx.heap.size + 1 := by simp
    replace HB := Lib.hid (HB.out.trans (hby.mono HB.out.size))
    have ky := Lib.hid (Lok.new Vx 23 #[.int .i64 b1, .int .i64 b2])
    clear hby
    generalize Vx.alloc (.cells #[.int .i64 b1, .int .i64 b2] 23) = Vy at *
    rw [zx] at ky zy
    have hbz := below_new1 Vy (.cells #[.int .i64 c1, .int .i64 c2] 23)
    replace kx := Lib.hid (kx.out.keep hbz)
    replace ky := Lib.hid (ky.out.keep hbz)
    have zz : (Vy.alloc (.cells #[.int .i64 c1, .int .i64 c2] 23)).heap.size = Vy.heap.size + 1 := by simp
    replace HB := Lib.hid (HB.out.trans (hbz.mono HB.out.size))
    have kz := Lib.hid (Lok.new Vy 23 #[.int .i64 c1, .int .i64 c2])
    clear hbz
    generalize Vy.alloc (.cells #[.int .i64 c1, .int .i64 c2] 23) = Vz at *
    rw [zy] at kz zz
    have hbt := below_new1 Vz (.cells #[.int .i64 d1, .int .i64 d2] 23)
    replace kx := Lib.hid (kx.out.keep hbt)
    replace ky := Lib.hid (ky.out.keep hbt)
    replace kz := Lib.hid (kz.out.keep hbt)
    have zt : (Vz.alloc (.cells #[.int .i64 d1, .int .i64 d2] 23)).heap.size = Vz.heap.size + 1 := by simp
    replace HB := Lib.hid (HB.out.trans (hbt.mono HB.out.size))
    have kt := Lib.hid (Lok.new Vz 23 #[.int .i64 d1, .int .i64 d2])
    clear hbt
    generalize Vz.alloc (.cells #[.int .i64 d1, .int .i64 d2] 23) = Vt at *
    rw [zz] at kt
    clear zx zy zz zt
    have x0 := kx.out.cell (i := 0) rfl
    have x1 := kx.out.cell (i := 1) rfl
    have y0 := ky.out.cell (i := 0) rfl
    have y1 := ky.out.cell (i := 1) rfl
    have z0 := kz.out.cell (i := 0) rfl
    have z1 := kz.out.cell (i := 1) rfl
    go_wp2_with fail
    clear x0 x1 y0 y1 z0 z1
    (((with_reducible refine (A1.out _).mono ?_); rintro e w1 ⟨rfl, hb1⟩); replace HB := Lib.hid (HB.out.trans (hb1.mono HB.out.size)); replace kx := Lib.hid (kx.out.keep hb1); replace ky := Lib.hid (ky.out.keep hb1); replace kz := Lib.hid (kz.out.keep hb1); replace kt := Lib.hid (kt.out.keep hb1); clear hb1)
    have x0 := kx.out.cell (i := 0) rfl
    have x1 := kx.out.cell (i := 1) rfl
    have y0 := ky.out.cell (i := 0) rfl
    have y1 := ky.out.cell (i := 1) rfl
    have t0 := kt.out.cell (i := 0) rfl
    have t1 := kt.out.cell (i := 1) rfl
    go_wp2_with fail
    clear x0 x1 y0 y1 t0 t1
    (((with_reducible refine (A2.out _).mono ?_); rintro e w2 ⟨rfl, hb2⟩); replace HB := Lib.hid (HB.out.trans (hb2.mono HB.out.size)); replace kx := Lib.hid (kx.out.keep hb2); replace ky := Lib.hid (ky.out.keep hb2); replace kz := Lib.hid (kz.out.keep hb2); replace kt := Lib.hid (kt.out.keep hb2); clear hb2)
    have y0 := ky.out.cell (i := 0) rfl
    have y1 := ky.out.cell (i := 1) rfl
    have z0 := kz.out.cell (i := 0) rfl
    have z1 := kz.out.cell (i := 1) rfl
    have t0 := kt.out.cell (i := 0) rfl
    have t1 := kt.out.cell (i := 1) rfl
    go_wp2_with fail
    clear y0 y1 z0 z1 t0 t1
    (((with_reducible refine (A3.out _).mono ?_); rintro e w3 ⟨rfl, hb3⟩); replace HB := Lib.hid (HB.out.trans (hb3.mono HB.out.size)); replace kx := Lib.hid (kx.out.keep hb3); replace ky := Lib.hid (ky.out.keep hb3); replace kz := Lib.hid (kz.out.keep hb3); replace kt := Lib.hid (kt.out.keep hb3); clear hb3)
    have z0 := kz.out.cell (i := 0) rfl
    have z1 := kz.out.cell (i := 1) rfl
    have x0 := kx.out.cell (i := 0) rfl
    have x1 := kx.out.cell (i := 1) rfl
    have t0 := kt.out.cell (i := 0) rfl
    have t1 := kt.out.cell (i := 1) rfl
    go_wp2_with fail
    clear z0 z1 x0 x1 t0 t1
    (((with_reducible refine (A4.out _).mono ?_); rintro e w4 ⟨rfl, hb4⟩); replace HB := Lib.hid (HB.out.trans (hb4.mono HB.out.size)); replace kx := Lib.hid (kx.out.keep hb4); replace ky := Lib.hid (ky.out.keep hb4); replace kz := Lib.hid (kz.out.keep hb4); replace kt := Lib.hid (kt.out.keep hb4); clear hb4)
    go_wp2_with fail
    (((with_reducible refine (sided_any _).mono ?_); rintro e w5 ⟨rfl, hb5⟩); replace HB := Lib.hid (HB.out.trans (hb5.mono HB.out.size)); replace kx := Lib.hid (kx.out.keep hb5); replace ky := Lib.hid (ky.out.keep hb5); replace kz := Lib.hid (kz.out.keep hb5); replace kt := Lib.hid (kt.out.keep hb5); clear hb5)
    have x0 := kx.out.cell (i := 0) rfl
    have x1 := kx.out.cell (i := 1) rfl
    have y0 := ky.out.cell (i := 0) rfl
    have y1 := ky.out.cell (i := 1) rfl
    have z0 := kz.out.cell (i := 0) rfl
    have z1 := kz.out.cell (i := 1) rfl
    have t0 := kt.out.cell (i := 0) rfl
    have t1 := kt.out.cell (i := 1) rfl
    go_wp2_with fail
    clear x0 x1 y0 y1 z0 z1 t0 t1
    have hbr := below_new1 w5 (.cells #[.int .i64 a1, .int .i64 a2, .int .i64 b1, .int .i64 b2, .int .i64 c1, .int .i64 c2, .int .i64 d1, .int .i64 d2] 23)
    replace kx := Lib.hid (kx.out.keep hbr)
    replace ky := Lib.hid (ky.out.keep hbr)
    replace kz := Lib.hid (kz.out.keep hbr)
    replace kt := Lib.hid (kt.out.keep hbr)
    have zr : (w5.alloc (.cells #[.int .i64 a1, .int .i64 a2, .int .i64 b1, .int .i64 b2, .int .i64 c1, .int .i64 c2, .int .i64 d1, .int .i64 d2] 23)).heap.size = w5.heap.size + 1 := by simp
    replace HB := Lib.hid (HB.out.trans (hbr.mono HB.out.size))
    have kr := Lib.hid (Lok.new w5 23 #[.int .i64 a1, .int .i64 a2, .int .i64 b1, .int .i64 b2, .int .i64 c1, .int .i64 c2, .int .i64 d1, .int .i64 d2])
    clear hbr
    generalize w5.alloc (.cells #[.int .i64 a1, .int .i64 a2, .int .i64 b1, .int .i64 b2, .int .i64 c1, .int .i64 c2, .int .i64 d1, .int .i64 d2] 23) = Vr at *
    clear zr
    generalize w5.heap.size = gr at *
    (((with_reducible refine (S.out _ _ _ kr.out).mono ?_); rintro e w6 ⟨rfl, hb6⟩); replace HB := Lib.hid (HB.out.trans (hb6.mono HB.out.size)); clear hb6)
    go_wp2
    go_ret
    exact ⟨rfl, HB.out⟩
  · go_enter Try.func5, Try.ntmps5
    go_upto_region 1 with fail
    have hbx := below_new1 w (.cells #[.int .i64 a1, .int .i64 a2] 23)
    have zx : (w.alloc (.cells #[.int .i64 a1, .int .i64 a2] 23)).heap.size = w.heap.size + 1 := by simp
    have HB := Lib.hid hbx
    have kx := Lib.hid (Lok.new w 23 #[.int .i64 a1, .int .i64 a2])
    clear hbx
    generalize w.alloc (.cells #[.int .i64 a1, .int .i64 a2] 23) = Vx at *
    have hby := below_new1 Vx (.cells #[.int .i64 b1, .int .i64 b2] 23)
    replace kx := Lib.hid (kx.out.keep hby)
    have zy : (Vx.alloc (.cells #[.int .i64 b1, .int .i64 b2] 23)).heap.size = Vx.heap.size + 1 := by simp
    replace HB := Lib.hid (HB.out.trans (hby.mono HB.out.size))
    have ky := Lib.hid (Lok.new Vx 23 #[.int .i64 b1, .int .i64 b2])
    clear hby
    generalize Vx.alloc (.cells #[.int .i64 b1, .int .i64 b2] 23) = Vy at *
    rw [zx] at ky zy
    have hbz := below_new1 Vy (.cells #[.int .i64 c1, .int .i64 c2] 23)
    replace kx := Lib.hid (kx.out.keep hbz)
    replace ky := Lib.hid (ky.out.keep hbz)
    have zz : (Vy.alloc (.cells #[.int .i64 c1, .int .i64 c2] 23)).heap.size = Vy.heap.size + 1 := by simp
    replace HB := Lib.hid (HB.out.trans (hbz.mono HB.out.size))
    have kz := Lib.hid (Lok.new Vy 23 #[.int .i64 c1, .int .i64 c2])
    clear hbz
    generalize Vy.alloc (.cells #[.int .i64 c1, .int .i64 c2] 23) = Vz at *
    rw [zy] at kz zz
    have hbt := below_new1 Vz (.cells #[.int .i64 d1, .int .i64 d2] 23)
    replace kx := Lib.hid (kx.out.keep hbt)
    replace ky := Lib.hid (ky.out.keep hbt)
    replace kz := Lib.hid (kz.out.keep hbt)
    have zt : (Vz.alloc (.cells #[.int .i64 d1, .int .i64 d2] 23)).heap.size = Vz.heap.size + 1 := by simp
    replace HB := Lib.hid (HB.out.trans (hbt.mono HB.out.size))
    have kt := Lib.hid (Lok.new Vz 23 #[.int .i64 d1, .int .i64 d2])
    clear hbt
    generalize Vz.alloc (.cells #[.int .i64 d1, .int .i64 d2] 23) = Vt at *
    rw [zz] at kt
    clear zx zy zz zt
    have x0 := kx.out.cell (i := 0) rfl
    have x1 := kx.out.cell (i := 1) rfl
    have y0 := ky.out.cell (i := 0) rfl
    have y1 := ky.out.cell (i := 1) rfl
    have z0 := kz.out.cell (i := 0) rfl
    have z1 := kz.out.cell (i := 1) rfl
    go_wp2_with fail
    clear x0 x1 y0 y1 z0 z1
    (((with_reducible refine (A1.out _).mono ?_); rintro e w1 ⟨rfl, hb1⟩); replace HB := Lib.hid (HB.out.trans (hb1.mono HB.out.size)); replace kx := Lib.hid (kx.out.keep hb1); replace ky := Lib.hid (ky.out.keep hb1); replace kz := Lib.hid (kz.out.keep hb1); replace kt := Lib.hid (kt.out.keep hb1); clear hb1)
    have x0 := kx.out.cell (i := 0) rfl
    have x1 := kx.out.cell (i := 1) rfl
    have y0 := ky.out.cell (i := 0) rfl
    have y1 := ky.out.cell (i := 1) rfl
    have t0 := kt.out.cell (i := 0) rfl
    have t1 := kt.out.cell (i := 1) rfl
    go_wp2_with fail
    clear x0 x1 y0 y1 t0 t1
    (((with_reducible refine (A2.out _).mono ?_); rintro e w2 ⟨rfl, hb2⟩); replace HB := Lib.hid (HB.out.trans (hb2.mono HB.out.size)); replace kx := Lib.hid (kx.out.keep hb2); replace ky := Lib.hid (ky.out.keep hb2); replace kz := Lib.hid (kz.out.keep hb2); replace kt := Lib.hid (kt.out.keep hb2); clear hb2)
    have y0 := ky.out.cell (i := 0) rfl
    have y1 := ky.out.cell (i := 1) rfl
    have z0 := kz.out.cell (i := 0) rfl
    have z1 := kz.out.cell (i := 1) rfl
    have t0 := kt.out.cell (i := 0) rfl
    have t1 := kt.out.cell (i := 1) rfl
    go_wp2_with fail
    clear y0 y1 z0 z1 t0 t1
    (((with_reducible refine (A3.out _).mono ?_); rintro e w3 ⟨rfl, hb3⟩); replace HB := Lib.hid (HB.out.trans (hb3.mono HB.out.size)); replace kx := Lib.hid (kx.out.keep hb3); replace ky := Lib.hid (ky.out.keep hb3); replace kz := Lib.hid (kz.out.keep hb3); replace kt := Lib.hid (kt.out.keep hb3); clear hb3)
    have z0 := kz.out.cell (i := 0) rfl
    have z1 := kz.out.cell (i := 1) rfl
    have x0 := kx.out.cell (i := 0) rfl
    have x1 := kx.out.cell (i := 1) rfl
    have t0 := kt.out.cell (i := 0) rfl
    have t1 := kt.out.cell (i := 1) rfl
    go_wp2_with fail
    clear z0 z1 x0 x1 t0 t1
    (((with_reducible refine (A4.out _).mono ?_); rintro e w4 ⟨rfl, hb4⟩); replace HB := Lib.hid (HB.out.trans (hb4.mono HB.out.size)); replace kx := Lib.hid (kx.out.keep hb4); replace ky := Lib.hid (ky.out.keep hb4); replace kz := Lib.hid (kz.out.keep hb4); replace kt := Lib.hid (kt.out.keep hb4); clear hb4)
    go_wp2_with fail
    (((with_reducible refine (sided_any _).mono ?_); rintro e w5 ⟨rfl, hb5⟩); replace HB := Lib.hid (HB.out.trans (hb5.mono HB.out.size)); replace kx := Lib.hid (kx.out.keep hb5); replace ky := Lib.hid (ky.out.keep hb5); replace kz := Lib.hid (kz.out.keep hb5); replace kt := Lib.hid (kt.out.keep hb5); clear hb5)
    go_wp2
    go_ret
    exact ⟨rfl, HB.out⟩
theorem ar_parts (a1 a2 b1 b2 c1 c2 d1 d2 : Int) : ar a1 a2 b1 b2 d1 d2 + ar b1 b2 c1 c2 d1 d2 + ar c1 c2 a1 a2 d1 d2 = ar a1 a2 b1 b2 c1 c2 := by unfold ar; grind
theorem law_parts (a1 a2 b1 b2 c1 c2 d1 d2 : Int) (w : World) :
    Calls Try.prog 5 #[.agg #[.int .i64 a1, .int .i64 a2], .agg #[.int .i64 b1, .int .i64 b2], .agg #[.int .i64 c1, .int .i64 c2], .agg #[.int .i64 d1, .int .i64 d2]] w fun e' w' => e' = .returned (.bool true) ∧ Below w.heap.size w w' := by
  refine law_parts_at a1 a2 b1 b2 c1 c2 d1 d2 _ _ _ _ _ _ _ _ _ w (Lib.hid fun W => area_any _ _ _ _ _ _ _ rfl W) (Lib.hid fun W => area_any _ _ _ _ _ _ _ rfl W) (Lib.hid fun W => area_any _ _ _ _ _ _ _ rfl W) (Lib.hid fun W => area_any _ _ _ _ _ _ _ rfl W)
    (Lib.hid fun g T W q => small2_4 a1 a2 b1 b2 c1 c2 d1 d2 _ rfl g T W q) ?_
  cases ha : s2 a1 a2 with
  | false => exact .inl ⟨rfl, rfl⟩
  | true =>
    cases hb : s2 b1 b2 with
    | false => exact .inl ⟨rfl, rfl⟩
    | true =>
      cases hc : s2 c1 c2 with
      | false => exact .inl ⟨rfl, rfl⟩
      | true =>
        cases hd : s2 d1 d2 with
        | false => exact .inr (.inl ⟨rfl, rfl, rfl⟩)
        | true =>
          refine .inr (.inr ⟨rfl, rfl, rfl, rfl, ?_⟩)
          obtain ⟨a3, a4⟩ := s2_iff.1 ha
          obtain ⟨b3, b4⟩ := s2_iff.1 hb
          obtain ⟨c3, c4⟩ := s2_iff.1 hc
          obtain ⟨d3, d4⟩ := s2_iff.1 hd
          have e1 := ar_bd2 a3 a4 b3 b4 d3 d4
          have e2 := ar_bd2 b3 b4 c3 c4 d3 d4
          have e3 := ar_bd2 c3 c4 a3 a4 d3 d4
          show IntKind.i64.wrap (ar a1 a2 b1 b2 d1 d2 + ar b1 b2 c1 c2 d1 d2) = ar a1 a2 b1 b2 d1 d2 + ar b1 b2 c1 c2 d1 d2 ∧ IntKind.i64.wrap (ar a1 a2 b1 b2 d1 d2 + ar b1 b2 c1 c2 d1 d2 + ar c1 c2 a1 a2 d1 d2) = ar a1 a2 b1 b2 c1 c2
          rw [← ar_parts a1 a2 b1 b2 c1 c2 d1 d2]
          exact ⟨IntWalk.i64_in _ (by omega), IntWalk.i64_in _ (by omega)⟩
end Go.Proofs.Yticjljbglimgeaa
