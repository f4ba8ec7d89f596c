/-
  The law VecSums: its walk.
-/
import Derived.Test.YtmejipfejdckiaaVcL
namespace Go.Proofs.Ytmejipfejdckiaa
open Go.RowKit

set_option maxRecDepth 100000 in
set_option maxHeartbeats 4000000 in
theorem law_sums_at (a1 a2 a3 b1 b2 b3 c1 c2 c3 d1 d2 d3 x y z s R2 R3 R4 : Int) (w : World)
    (S : Hid (∀ W, Calls Try.prog 18 #[.agg #[.int .i64 b1, .int .i64 b2, .int .i64 b3], .agg #[.int .i64 c1, .int .i64 c2, .int .i64 c3]] W fun e w' => e = .returned (.agg #[.int .i64 d1, .int .i64 d2, .int .i64 d3]) ∧ Below W.heap.size W w'))
    (A1 : Hid (∀ W, Calls Try.prog 8 #[.agg #[.int .i64 a1, .int .i64 a2, .int .i64 a3], .agg #[.int .i64 b1, .int .i64 b2, .int .i64 b3]] W fun e w' => e = .returned (.tuple #[.int .i64 x, .int .i64 R2]) ∧ Below W.heap.size W w'))
    (A2 : Hid (∀ W, Calls Try.prog 8 #[.agg #[.int .i64 a1, .int .i64 a2, .int .i64 a3], .agg #[.int .i64 c1, .int .i64 c2, .int .i64 c3]] W fun e w' => e = .returned (.tuple #[.int .i64 y, .int .i64 R3]) ∧ Below W.heap.size W w'))
    (A3 : Hid (∀ W, Calls Try.prog 8 #[.agg #[.int .i64 a1, .int .i64 a2, .int .i64 a3], .agg #[.int .i64 d1, .int .i64 d2, .int .i64 d3]] W fun e w' => e = .returned (.tuple #[.int .i64 z, .int .i64 R4]) ∧ Below W.heap.size W w'))
    (A4 : Hid (∀ W, Calls Try.prog 8 #[.agg #[.int .i64 b1, .int .i64 b2, .int .i64 b3], .agg #[.int .i64 a1, .int .i64 a2, .int .i64 a3]] W fun e w' => e = .returned (.tuple #[.int .i64 s, .int .i64 R2]) ∧ Below W.heap.size W w'))
    (h : R2 = 5 ∨ (R2 = 0 ∧ R3 = 5) ∨ (R2 = 0 ∧ R3 = 0 ∧ R4 = 5) ∨ (R2 = 0 ∧ R3 = 0 ∧ R4 = 0 ∧ s = x ∧ z = x - y ∧ IntKind.i64.wrap (x - y) = x - y)) :
    Calls Try.prog 6 #[.agg #[.int .i64 a1, .int .i64 a2, .int .i64 a3], .agg #[.int .i64 b1, .int .i64 b2, .int .i64 b3], .agg #[.int .i64 c1, .int .i64 c2, .int .i64 c3]] w fun e' w' => e' = .returned (.bool true) ∧ Below w.heap.size w w' := by
  rcases h with rfl | ⟨rfl, rfl⟩ | ⟨rfl, rfl, rfl⟩ | ⟨rfl, rfl, rfl, rfl, hz, hw⟩
  · go_enter Try.func6, Try.ntmps6
    go_upto_region 1 with fail
    have hbx := below_new1 w (.cells #[.int .i64 a1, .int .i64 a2, .int .i64 a3] 23)
    have zx : (w.alloc (.cells #[.int .i64 a1, .int .i64 a2, .int .i64 a3] 23)).heap.size = w.heap.size + 1 := by simp
    have HB := Lib.hid hbx
    have kx := Lib.hid (Lok.new w 23 #[.int .i64 a1, .int .i64 a2, .int .i64 a3])
    clear hbx
    generalize w.alloc (.cells #[.int .i64 a1, .int .i64 a2, .int .i64 a3] 23) = Vx at *
    have hby := below_new1 Vx (.cells #[.int .i64 b1, .int .i64 b2, .int .i64 b3] 23)
    replace kx := Lib.hid (kx.out.keep hby)
    have zy : (Vx.alloc (.cells #[.int .i64 b1, .int .i64 b2, .int .i64 b3] 23)).heap.size = Vx.heap.size + 1 := by simp
    replace HB := Lib.hid (HB.out.trans (hby.mono HB.out.size))
    have ky := Lib.hid (Lok.new Vx 23 #[.int .i64 b1, .int .i64 b2, .int .i64 b3])
    clear hby
    generalize Vx.alloc (.cells #[.int .i64 b1, .int .i64 b2, .int .i64 b3] 23) = Vy at *
    rw [zx] at ky zy
    have hbz := below_new1 Vy (.cells #[.int .i64 c1, .int .i64 c2, .int .i64 c3] 23)
    replace kx := Lib.hid (kx.out.keep hbz)
    replace ky := Lib.hid (ky.out.keep hbz)
    have zz : (Vy.alloc (.cells #[.int .i64 c1, .int .i64 c2, .int .i64 c3] 23)).heap.size = Vy.heap.size + 1 := by simp
    replace HB := Lib.hid (HB.out.trans (hbz.mono HB.out.size))
    have kz := Lib.hid (Lok.new Vy 23 #[.int .i64 c1, .int .i64 c2, .int .i64 c3])
    clear hbz
    generalize Vy.alloc (.cells #[.int .i64 c1, .int .i64 c2, .int .i64 c3] 23) = Vz at *
    rw [zy] at kz
    clear zx zy zz
    have y0 := ky.out.cell (i := 0) rfl
    have y1 := ky.out.cell (i := 1) rfl
    have y2 := ky.out.cell (i := 2) rfl
    have z0 := kz.out.cell (i := 0) rfl
    have z1 := kz.out.cell (i := 1) rfl
    have z2 := kz.out.cell (i := 2) rfl
    go_wp2_with fail
    clear y0 y1 y2 z0 z1 z2
    ((with_reducible refine (S.out _).mono ?_); rintro e w1 ⟨rfl, hb1⟩)
    replace HB := Lib.hid (HB.out.trans (hb1.mono HB.out.size))
    replace kx := Lib.hid (kx.out.keep hb1)
    replace ky := Lib.hid (ky.out.keep hb1)
    replace kz := Lib.hid (kz.out.keep hb1)
    clear hb1
    go_upto_region 2 with fail
    have hb1 := below_new1 w1 (.cells #[.int .i64 d1, .int .i64 d2, .int .i64 d3] 23)
    replace HB := Lib.hid (HB.out.trans (hb1.mono HB.out.size))
    replace kx := Lib.hid (kx.out.keep hb1)
    replace ky := Lib.hid (ky.out.keep hb1)
    replace kz := Lib.hid (kz.out.keep hb1)
    have k1 := Lib.hid (Lok.new w1 23 #[.int .i64 d1, .int .i64 d2, .int .i64 d3])
    clear hb1
    generalize w1.alloc (.cells #[.int .i64 d1, .int .i64 d2, .int .i64 d3] 23) = V1 at *
    generalize w1.heap.size = g1 at *
    have x0 := kx.out.cell (i := 0) rfl
    have x1 := kx.out.cell (i := 1) rfl
    have x2 := kx.out.cell (i := 2) rfl
    have y0 := ky.out.cell (i := 0) rfl
    have y1 := ky.out.cell (i := 1) rfl
    have y2 := ky.out.cell (i := 2) rfl
    go_wp2_with fail
    clear x0 x1 x2 y0 y1 y2
    (((with_reducible refine (A1.out _).mono ?_); rintro e w2 ⟨rfl, hb2⟩); replace HB := Lib.hid (HB.out.trans (hb2.mono HB.out.size)); replace kx := Lib.hid (kx.out.keep hb2); replace ky := Lib.hid (ky.out.keep hb2); replace kz := Lib.hid (kz.out.keep hb2); replace k1 := Lib.hid (k1.out.keep hb2); clear hb2)
    have x0 := kx.out.cell (i := 0) rfl
    have x1 := kx.out.cell (i := 1) rfl
    have x2 := kx.out.cell (i := 2) rfl
    have z0 := kz.out.cell (i := 0) rfl
    have z1 := kz.out.cell (i := 1) rfl
    have z2 := kz.out.cell (i := 2) rfl
    go_wp2_with fail
    clear x0 x1 x2 z0 z1 z2
    (((with_reducible refine (A2.out _).mono ?_); rintro e w3 ⟨rfl, hb3⟩); replace HB := Lib.hid (HB.out.trans (hb3.mono HB.out.size)); replace kx := Lib.hid (kx.out.keep hb3); replace ky := Lib.hid (ky.out.keep hb3); replace k1 := Lib.hid (k1.out.keep hb3); clear hb3)
    have x0 := kx.out.cell (i := 0) rfl
    have x1 := kx.out.cell (i := 1) rfl
    have x2 := kx.out.cell (i := 2) rfl
    have z0 := k1.out.cell (i := 0) rfl
    have z1 := k1.out.cell (i := 1) rfl
    have z2 := k1.out.cell (i := 2) rfl
    go_wp2_with fail
    clear x0 x1 x2 z0 z1 z2
    (((with_reducible refine (A3.out _).mono ?_); rintro e w4 ⟨rfl, hb4⟩); replace HB := Lib.hid (HB.out.trans (hb4.mono HB.out.size)); replace kx := Lib.hid (kx.out.keep hb4); replace ky := Lib.hid (ky.out.keep hb4); clear hb4)
    have x0 := kx.out.cell (i := 0) rfl
    have x1 := kx.out.cell (i := 1) rfl
    have x2 := kx.out.cell (i := 2) rfl
    have y0 := ky.out.cell (i := 0) rfl
    have y1 := ky.out.cell (i := 1) rfl
    have y2 := ky.out.cell (i := 2) rfl
    go_wp2_with fail
    clear x0 x1 x2 y0 y1 y2
    (((with_reducible refine (A4.out _).mono ?_); rintro e w5 ⟨rfl, hb5⟩); replace HB := Lib.hid (HB.out.trans (hb5.mono HB.out.size)); clear hb5)
    go_wp2_with fail
    (((with_reducible refine (crossed_any _).mono ?_); rintro e w6 ⟨rfl, hb6⟩); replace HB := Lib.hid (HB.out.trans (hb6.mono HB.out.size)); clear hb6)
    go_wp2
    go_ret
    exact ⟨rfl, HB.out⟩
  · go_enter Try.func6, Try.ntmps6
    go_upto_region 1 with fail
    have hbx := below_new1 w (.cells #[.int .i64 a1, .int .i64 a2, .int .i64 a3] 23)
    have zx : (w.alloc (.cells #[.int .i64 a1, .int .i64 a2, .int .i64 a3] 23)).heap.size = w.heap.size + 1 := by simp
    have HB := Lib.hid hbx
    have kx := Lib.hid (Lok.new w 23 #[.int .i64 a1, .int .i64 a2, .int .i64 a3])
    clear hbx
    generalize w.alloc (.cells #[.int .i64 a1, .int .i64 a2, .int .i64 a3] 23) = Vx at *
    have hby := below_new1 Vx (.cells #[.int .i64 b1, .int .i64 b2, .int .i64 b3] 23)
    replace kx := Lib.hid (kx.out.keep hby)
    have zy : (Vx.alloc (.cells #[.int .i64 b1, .int .i64 b2, .int .i64 b3] 23)).heap.size = Vx.heap.size + 1 := by simp
    replace HB := Lib.hid (HB.out.trans (hby.mono HB.out.size))
    have ky := Lib.hid (Lok.new Vx 23 #[.int .i64 b1, .int .i64 b2, .int .i64 b3])
    clear hby
    generalize Vx.alloc (.cells #[.int .i64 b1, .int .i64 b2, .int .i64 b3] 23) = Vy at *
    rw [zx] at ky zy
    have hbz := below_new1 Vy (.cells #[.int .i64 c1, .int .i64 c2, .int .i64 c3] 23)
    replace kx := Lib.hid (kx.out.keep hbz)
    replace ky := Lib.hid (ky.out.keep hbz)
    have zz : (Vy.alloc (.cells #[.int .i64 c1, .int .i64 c2, .int .i64 c3] 23)).heap.size = Vy.heap.size + 1 := by simp
    replace HB := Lib.hid (HB.out.trans (hbz.mono HB.out.size))
    have kz := Lib.hid (Lok.new Vy 23 #[.int .i64 c1, .int .i64 c2, .int .i64 c3])
    clear hbz
    generalize Vy.alloc (.cells #[.int .i64 c1, .int .i64 c2, .int .i64 c3] 23) = Vz at *
    rw [zy] at kz
    clear zx zy zz
    have y0 := ky.out.cell (i := 0) rfl
    have y1 := ky.out.cell (i := 1) rfl
    have y2 := ky.out.cell (i := 2) rfl
    have z0 := kz.out.cell (i := 0) rfl
    have z1 := kz.out.cell (i := 1) rfl
    have z2 := kz.out.cell (i := 2) rfl
    go_wp2_with fail
    clear y0 y1 y2 z0 z1 z2
    ((with_reducible refine (S.out _).mono ?_); rintro e w1 ⟨rfl, hb1⟩)
    replace HB := Lib.hid (HB.out.trans (hb1.mono HB.out.size))
    replace kx := Lib.hid (kx.out.keep hb1)
    replace ky := Lib.hid (ky.out.keep hb1)
    replace kz := Lib.hid (kz.out.keep hb1)
    clear hb1
    go_upto_region 2 with fail
    have hb1 := below_new1 w1 (.cells #[.int .i64 d1, .int .i64 d2, .int .i64 d3] 23)
    replace HB := Lib.hid (HB.out.trans (hb1.mono HB.out.size))
    replace kx := Lib.hid (kx.out.keep hb1)
    replace ky := Lib.hid (ky.out.keep hb1)
    replace kz := Lib.hid (kz.out.keep hb1)
    have k1 := Lib.hid (Lok.new w1 23 #[.int .i64 d1, .int .i64 d2, .int .i64 d3])
    clear hb1
    generalize w1.alloc (.cells #[.int .i64 d1, .int .i64 d2, .int .i64 d3] 23) = V1 at *
    generalize w1.heap.size = g1 at *
    have x0 := kx.out.cell (i := 0) rfl
    have x1 := kx.out.cell (i := 1) rfl
    have x2 := kx.out.cell (i := 2) rfl
    have y0 := ky.out.cell (i := 0) rfl
    have y1 := ky.out.cell (i := 1) rfl
    have y2 := ky.out.cell (i := 2) rfl
    go_wp2_with fail
    clear x0 x1 x2 y0 y1 y2
    (((with_reducible refine (A1.out _).mono ?_); rintro e w2 ⟨rfl, hb2⟩); replace HB := Lib.hid (HB.out.trans (hb2.mono HB.out.size)); replace kx := Lib.hid (kx.out.keep hb2); replace ky := Lib.hid (ky.out.keep hb2); replace kz := Lib.hid (kz.out.keep hb2); replace k1 := Lib.hid (k1.out.keep hb2); clear hb2)
    have x0 := kx.out.cell (i := 0) rfl
    have x1 := kx.out.cell (i := 1) rfl
    have x2 := kx.out.cell (i := 2) rfl
    have z0 := kz.out.cell (i := 0) rfl
    have z1 := kz.out.cell (i := 1) rfl
    have z2 := kz.out.cell (i := 2) rfl
    go_wp2_with fail
    clear x0 x1 x2 z0 z1 z2
    (((with_reducible refine (A2.out _).mono ?_); rintro e w3 ⟨rfl, hb3⟩); replace HB := Lib.hid (HB.out.trans (hb3.mono HB.out.size)); replace kx := Lib.hid (kx.out.keep hb3); replace ky := Lib.hid (ky.out.keep hb3); replace k1 := Lib.hid (k1.out.keep hb3); clear hb3)
    have x0 := kx.out.cell (i := 0) rfl
    have x1 := kx.out.cell (i := 1) rfl
    have x2 := kx.out.cell (i := 2) rfl
    have z0 := k1.out.cell (i := 0) rfl
    have z1 := k1.out.cell (i := 1) rfl
    have z2 := k1.out.cell (i := 2) rfl
    go_wp2_with fail
    clear x0 x1 x2 z0 z1 z2
    (((with_reducible refine (A3.out _).mono ?_); rintro e w4 ⟨rfl, hb4⟩); replace HB := Lib.hid (HB.out.trans (hb4.mono HB.out.size)); replace kx := Lib.hid (kx.out.keep hb4); replace ky := Lib.hid (ky.out.keep hb4); clear hb4)
    have x0 := kx.out.cell (i := 0) rfl
    have x1 := kx.out.cell (i := 1) rfl
    have x2 := kx.out.cell (i := 2) rfl
    have y0 := ky.out.cell (i := 0) rfl
    have y1 := ky.out.cell (i := 1) rfl
    have y2 := ky.out.cell (i := 2) rfl
    go_wp2_with fail
    clear x0 x1 x2 y0 y1 y2
    (((with_reducible refine (A4.out _).mono ?_); rintro e w5 ⟨rfl, hb5⟩); replace HB := Lib.hid (HB.out.trans (hb5.mono HB.out.size)); clear hb5)
    go_wp2_with fail
    (((with_reducible refine (crossed_any _).mono ?_); rintro e w6 ⟨rfl, hb6⟩); replace HB := Lib.hid (HB.out.trans (hb6.mono HB.out.size)); clear hb6)
    go_wp2
    go_ret
    exact ⟨rfl, HB.out⟩
  · go_enter Try.func6, Try.ntmps6
    go_upto_region 1 with fail
    have hbx := below_new1 w (.cells #[.int .i64 a1, .int .i64 a2, .int .i64 a3] 23)
    have zx : (w.alloc (.cells #[.int .i64 a1, .int .i64 a2, .int .i64 a3] 23)).heap.size = w.heap.size + 1 := by simp
    have HB := Lib.hid hbx
    have kx := Lib.hid (Lok.new w 23 #[.int .i64 a1, .int .i64 a2, .int .i64 a3])
    clear hbx
    generalize w.alloc (.cells #[.int .i64 a1, .int .i64 a2, .int .i64 a3] 23) = Vx at *
    have hby := below_new1 Vx (.cells #[.int .i64 b1, .int .i64 b2, .int .i64 b3] 23)
    replace kx := Lib.hid (kx.out.keep hby)
    have zy : (Vx.alloc (.cells #[.int .i64 b1, .int .i64 b2, .int .i64 b3] 23)).heap.size = Vx.heap.size + 1 := by simp
    replace HB := Lib.hid (HB.out.trans (hby.mono HB.out.size))
    have ky := Lib.hid (Lok.new Vx 23 #[.int .i64 b1, .int .i64 b2, .int .i64 b3])
    clear hby
    generalize Vx.alloc (.cells #[.int .i64 b1, .int .i64 b2, .int .i64 b3] 23) = Vy at *
    rw [zx] at ky zy
    have hbz := below_new1 Vy (.cells #[.int .i64 c1, .int .i64 c2, .int .i64 c3] 23)
    replace kx := Lib.hid (kx.out.keep hbz)
    replace ky := Lib.hid (ky.out.keep hbz)
    have zz : (Vy.alloc (.cells #[.int .i64 c1, .int .i64 c2, .int .i64 c3] 23)).heap.size = Vy.heap.size + 1 := by simp
    replace HB := Lib.hid (HB.out.trans (hbz.mono HB.out.size))
    have kz := Lib.hid (Lok.new Vy 23 #[.int .i64 c1, .int .i64 c2, .int .i64 c3])
    clear hbz
    generalize Vy.alloc (.cells #[.int .i64 c1, .int .i64 c2, .int .i64 c3] 23) = Vz at *
    rw [zy] at kz
    clear zx zy zz
    have y0 := ky.out.cell (i := 0) rfl
    have y1 := ky.out.cell (i := 1) rfl
    have y2 := ky.out.cell (i := 2) rfl
    have z0 := kz.out.cell (i := 0) rfl
    have z1 := kz.out.cell (i := 1) rfl
    have z2 := kz.out.cell (i := 2) rfl
    go_wp2_with fail
    clear y0 y1 y2 z0 z1 z2
    ((with_reducible refine (S.out _).mono ?_); rintro e w1 ⟨rfl, hb1⟩)
    replace HB := Lib.hid (HB.out.trans (hb1.mono HB.out.size))
    replace kx := Lib.hid (kx.out.keep hb1)
    replace ky := Lib.hid (ky.out.keep hb1)
    replace kz := Lib.hid (kz.out.keep hb1)
    clear hb1
    go_upto_region 2 with fail
    have hb1 := below_new1 w1 (.cells #[.int .i64 d1, .int .i64 d2, .int .i64 d3] 23)
    replace HB := Lib.hid (HB.out.trans (hb1.mono HB.out.size))
    replace kx := Lib.hid (kx.out.keep hb1)
    replace ky := Lib.hid (ky.out.keep hb1)
    replace kz := Lib.hid (kz.out.keep hb1)
    have k1 := Lib.hid (Lok.new w1 23 #[.int .i64 d1, .int .i64 d2, .int .i64 d3])
    clear hb1
    generalize w1.alloc (.cells #[.int .i64 d1, .int .i64 d2, .int .i64 d3] 23) = V1 at *
    generalize w1.heap.size = g1 at *
    have x0 := kx.out.cell (i := 0) rfl
    have x1 := kx.out.cell (i := 1) rfl
    have x2 := kx.out.cell (i := 2) rfl
    have y0 := ky.out.cell (i := 0) rfl
    have y1 := ky.out.cell (i := 1) rfl
    have y2 := ky.out.cell (i := 2) rfl
    go_wp2_with fail
    clear x0 x1 x2 y0 y1 y2
    (((with_reducible refine (A1.out _).mono ?_); rintro e w2 ⟨rfl, hb2⟩); replace HB := Lib.hid (HB.out.trans (hb2.mono HB.out.size)); replace kx := Lib.hid (kx.out.keep hb2); replace ky := Lib.hid (ky.out.keep hb2); replace kz := Lib.hid (kz.out.keep hb2); replace k1 := Lib.hid (k1.out.keep hb2); clear hb2)
    have x0 := kx.out.cell (i := 0) rfl
    have x1 := kx.out.cell (i := 1) rfl
    have x2 := kx.out.cell (i := 2) rfl
    have z0 := kz.out.cell (i := 0) rfl
    have z1 := kz.out.cell (i := 1) rfl
    have z2 := kz.out.cell (i := 2) rfl
    go_wp2_with fail
    clear x0 x1 x2 z0 z1 z2
    (((with_reducible refine (A2.out _).mono ?_); rintro e w3 ⟨rfl, hb3⟩); replace HB := Lib.hid (HB.out.trans (hb3.mono HB.out.size)); replace kx := Lib.hid (kx.out.keep hb3); replace ky := Lib.hid (ky.out.keep hb3); replace k1 := Lib.hid (k1.out.keep hb3); clear hb3)
    have x0 := kx.out.cell (i := 0) rfl
    have x1 := kx.out.cell (i := 1) rfl
    have x2 := kx.out.cell (i := 2) rfl
    have z0 := k1.out.cell (i := 0) rfl
    have z1 := k1.out.cell (i := 1) rfl
    have z2 := k1.out.cell (i := 2) rfl
    go_wp2_with fail
    clear x0 x1 x2 z0 z1 z2
    (((with_reducible refine (A3.out _).mono ?_); rintro e w4 ⟨rfl, hb4⟩); replace HB := Lib.hid (HB.out.trans (hb4.mono HB.out.size)); replace kx := Lib.hid (kx.out.keep hb4); replace ky := Lib.hid (ky.out.keep hb4); clear hb4)
    have x0 := kx.out.cell (i := 0) rfl
    have x1 := kx.out.cell (i := 1) rfl
    have x2 := kx.out.cell (i := 2) rfl
    have y0 := ky.out.cell (i := 0) rfl
    have y1 := ky.out.cell (i := 1) rfl
    have y2 := ky.out.cell (i := 2) rfl
    go_wp2_with fail
    clear x0 x1 x2 y0 y1 y2
    (((with_reducible refine (A4.out _).mono ?_); rintro e w5 ⟨rfl, hb5⟩); replace HB := Lib.hid (HB.out.trans (hb5.mono HB.out.size)); clear hb5)
    go_wp2_with fail
    (((with_reducible refine (crossed_any _).mono ?_); rintro e w6 ⟨rfl, hb6⟩); replace HB := Lib.hid (HB.out.trans (hb6.mono HB.out.size)); clear hb6)
    go_wp2
    go_ret
    exact ⟨rfl, HB.out⟩
  · rw [hz] at A3
    clear hz
    go_enter Try.func6, Try.ntmps6
    go_upto_region 1 with fail
    have hbx := below_new1 w (.cells #[.int .i64 a1, .int .i64 a2, .int .i64 a3] 23)
    have zx : (w.alloc (.cells #[.int .i64 a1, .int .i64 a2, .int .i64 a3] 23)).heap.size = w.heap.size + 1 := by simp
    have HB := Lib.hid hbx
    have kx := Lib.hid (Lok.new w 23 #[.int .i64 a1, .int .i64 a2, .int .i64 a3])
    clear hbx
    generalize w.alloc (.cells #[.int .i64 a1, .int .i64 a2, .int .i64 a3] 23) = Vx at *
    have hby := below_new1 Vx (.cells #[.int .i64 b1, .int .i64 b2, .int .i64 b3] 23)
    replace kx := Lib.hid (kx.out.keep hby)
    have zy : (Vx.alloc (.cells #[.int .i64 b1, .int .i64 b2, .int .i64 b3] 23)).heap.size = Vx.heap.size + 1 := by simp
    replace HB := Lib.hid (HB.out.trans (hby.mono HB.out.size))
    have ky := Lib.hid (Lok.new Vx 23 #[.int .i64 b1, .int .i64 b2, .int .i64 b3])
    clear hby
    generalize Vx.alloc (.cells #[.int .i64 b1, .int .i64 b2, .int .i64 b3] 23) = Vy at *
    rw [zx] at ky zy
    have hbz := below_new1 Vy (.cells #[.int .i64 c1, .int .i64 c2, .int .i64 c3] 23)
    replace kx := Lib.hid (kx.out.keep hbz)
    replace ky := Lib.hid (ky.out.keep hbz)
    have zz : (Vy.alloc (.cells #[.int .i64 c1, .int .i64 c2, .int .i64 c3] 23)).heap.size = Vy.heap.size + 1 := by simp
    replace HB := Lib.hid (HB.out.trans (hbz.mono HB.out.size))
    have kz := Lib.hid (Lok.new Vy 23 #[.int .i64 c1, .int .i64 c2, .int .i64 c3])
    clear hbz
    generalize Vy.alloc (.cells #[.int .i64 c1, .int .i64 c2, .int .i64 c3] 23) = Vz at *
    rw [zy] at kz
    clear zx zy zz
    have y0 := ky.out.cell (i := 0) rfl
    have y1 := ky.out.cell (i := 1) rfl
    have y2 := ky.out.cell (i := 2) rfl
    have z0 := kz.out.cell (i := 0) rfl
    have z1 := kz.out.cell (i := 1) rfl
    have z2 := kz.out.cell (i := 2) rfl
    go_wp2_with fail
    clear y0 y1 y2 z0 z1 z2
    ((with_reducible refine (S.out _).mono ?_); rintro e w1 ⟨rfl, hb1⟩)
    replace HB := Lib.hid (HB.out.trans (hb1.mono HB.out.size))
    replace kx := Lib.hid (kx.out.keep hb1)
    replace ky := Lib.hid (ky.out.keep hb1)
    replace kz := Lib.hid (kz.out.keep hb1)
    clear hb1
    go_upto_region 2 with fail
    have hb1 := below_new1 w1 (.cells #[.int .i64 d1, .int .i64 d2, .int .i64 d3] 23)
    replace HB := Lib.hid (HB.out.trans (hb1.mono HB.out.size))
    replace kx := Lib.hid (kx.out.keep hb1)
    replace ky := Lib.hid (ky.out.keep hb1)
    replace kz := Lib.hid (kz.out.keep hb1)
    have k1 := Lib.hid (Lok.new w1 23 #[.int .i64 d1, .int .i64 d2, .int .i64 d3])
    clear hb1
    generalize w1.alloc (.cells #[.int .i64 d1, .int .i64 d2, .int .i64 d3] 23) = V1 at *
    generalize w1.heap.size = g1 at *
    have x0 := kx.out.cell (i := 0) rfl
    have x1 := kx.out.cell (i := 1) rfl
    have x2 := kx.out.cell (i := 2) rfl
    have y0 := ky.out.cell (i := 0) rfl
    have y1 := ky.out.cell (i := 1) rfl
    have y2 := ky.out.cell (i := 2) rfl
    go_wp2_with fail
    clear x0 x1 x2 y0 y1 y2
    (((with_reducible refine (A1.out _).mono ?_); rintro e w2 ⟨rfl, hb2⟩); replace HB := Lib.hid (HB.out.trans (hb2.mono HB.out.size)); replace kx := Lib.hid (kx.out.keep hb2); replace ky := Lib.hid (ky.out.keep hb2); replace kz := Lib.hid (kz.out.keep hb2); replace k1 := Lib.hid (k1.out.keep hb2); clear hb2)
    have x0 := kx.out.cell (i := 0) rfl
    have x1 := kx.out.cell (i := 1) rfl
    have x2 := kx.out.cell (i := 2) rfl
    have z0 := kz.out.cell (i := 0) rfl
    have z1 := kz.out.cell (i := 1) rfl
    have z2 := kz.out.cell (i := 2) rfl
    go_wp2_with fail
    clear x0 x1 x2 z0 z1 z2
    (((with_reducible refine (A2.out _).mono ?_); rintro e w3 ⟨rfl, hb3⟩); replace HB := Lib.hid (HB.out.trans (hb3.mono HB.out.size)); replace kx := Lib.hid (kx.out.keep hb3); replace ky := Lib.hid (ky.out.keep hb3); replace k1 := Lib.hid (k1.out.keep hb3); clear hb3)
    have x0 := kx.out.cell (i := 0) rfl
    have x1 := kx.out.cell (i := 1) rfl
    have x2 := kx.out.cell (i := 2) rfl
    have z0 := k1.out.cell (i := 0) rfl
    have z1 := k1.out.cell (i := 1) rfl
    have z2 := k1.out.cell (i := 2) rfl
    go_wp2_with fail
    clear x0 x1 x2 z0 z1 z2
    (((with_reducible refine (A3.out _).mono ?_); rintro e w4 ⟨rfl, hb4⟩); replace HB := Lib.hid (HB.out.trans (hb4.mono HB.out.size)); replace kx := Lib.hid (kx.out.keep hb4); replace ky := Lib.hid (ky.out.keep hb4); clear hb4)
    have x0 := kx.out.cell (i := 0) rfl
    have x1 := kx.out.cell (i := 1) rfl
    have x2 := kx.out.cell (i := 2) rfl
    have y0 := ky.out.cell (i := 0) rfl
    have y1 := ky.out.cell (i := 1) rfl
    have y2 := ky.out.cell (i := 2) rfl
    go_wp2_with fail
    clear x0 x1 x2 y0 y1 y2
    (((with_reducible refine (A4.out _).mono ?_); rintro e w5 ⟨rfl, hb5⟩); replace HB := Lib.hid (HB.out.trans (hb5.mono HB.out.size)); clear hb5)
    go_wp2_with fail
    (((with_reducible refine (crossed_any _).mono ?_); rintro e w6 ⟨rfl, hb6⟩); replace HB := Lib.hid (HB.out.trans (hb6.mono HB.out.size)); clear hb6)
    go_wp2
    go_ret
    exact ⟨rfl, HB.out⟩

theorem dF_true {t : Bool} (h : t = true) (a b c d e f : Int) : dF t a b c d e f = a * d + b * e + c * f := if_pos h
theorem rE_true {t : Bool} (h : t = true) : rE t = 0 := if_pos h
theorem rE_false {t : Bool} (h : t = false) : rE t = 5 := by rw [h]; rfl
theorem dot_bd {a b c d e f : Int} (h : n3 a b c = true) (k : n3 d e f = true) : -3298534883328 ≤ a * d + b * e + c * f ∧ a * d + b * e + c * f ≤ 3298534883328 := by
  obtain ⟨ha, hb, hc⟩ := n3_iff.1 h
  obtain ⟨hd, he, hf⟩ := n3_iff.1 k
  have := near_prod ha hd
  have := near_prod hb he
  have := near_prod hc hf
  omega
theorem law_sums (a1 a2 a3 b1 b2 b3 c1 c2 c3 : Int) (w : World) :
    Calls Try.prog 6 #[.agg #[.int .i64 a1, .int .i64 a2, .int .i64 a3], .agg #[.int .i64 b1, .int .i64 b2, .int .i64 b3], .agg #[.int .i64 c1, .int .i64 c2, .int .i64 c3]] w fun e' w' => e' = .returned (.bool true) ∧ Below w.heap.size w w' := by
  have A4 := Lib.hid (fun W => dot_any b1 b2 b3 a1 a2 a3 W)
  rw [Bool.and_comm (n3 b1 b2 b3)] at A4
  refine law_sums_at a1 a2 a3 b1 b2 b3 c1 c2 c3 _ _ _ _ _ _ _ _ _ _ w (Lib.hid fun W => sub3_any b1 b2 b3 c1 c2 c3 W) (Lib.hid fun W => dot_any a1 a2 a3 b1 b2 b3 W) (Lib.hid fun W => dot_any a1 a2 a3 c1 c2 c3 W) (Lib.hid fun W => dot_any a1 a2 a3 _ _ _ W) A4 ?_
  clear A4
  cases h2 : n3 a1 a2 a3 && n3 b1 b2 b3 with
  | false => exact .inl rfl
  | true =>
    cases h3 : n3 a1 a2 a3 && n3 c1 c2 c3 with
    | false => exact .inr (.inl ⟨rfl, rfl⟩)
    | true =>
      have hb := (Bool.and_eq_true_iff.1 h2).2
      have hc := (Bool.and_eq_true_iff.1 h3).2
      have ha := (Bool.and_eq_true_iff.1 h3).1
      have h1 : (n3 b1 b2 b3 && n3 c1 c2 c3) = true := by rw [hb, hc]; rfl
      rw [h1]
      cases h4 : n3 a1 a2 a3 && n3 (sF true b1 c1) (sF true b2 c2) (sF true b3 c3) with
      | false => exact .inr (.inr (.inl ⟨rfl, rfl, rfl⟩))
      | true =>
        refine .inr (.inr (.inr ⟨rfl, rfl, rfl, ?_, ?_, ?_⟩))
        · rw [dF_true rfl, dF_true rfl, Int.mul_comm b1, Int.mul_comm b2, Int.mul_comm b3]
        · rw [dF_true rfl, dF_true rfl, dF_true rfl]
          show a1 * (b1 - c1) + a2 * (b2 - c2) + a3 * (b3 - c3) = _
          grind
        · rw [dF_true rfl, dF_true rfl]
          have p := dot_bd ha hb
          have q := dot_bd ha hc
          exact IntWalk.i64_in _ (by omega)
end Go.Proofs.Ytmejipfejdckiaa
