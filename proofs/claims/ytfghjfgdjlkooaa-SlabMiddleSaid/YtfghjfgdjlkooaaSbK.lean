/-
  The law SlabMiddle, walked. (gen/SbK.py)
-/
import Derived.Test.YtfghjfgdjlkooaaSbH
import Derived.Test.YtfghjfgdjlkooaaSbV
namespace Go.Proofs.Ytfghjfgdjlkooaa
open Go.RowKit

set_option maxRecDepth 100000 in
set_option maxHeartbeats 16000000 in
theorem law_middle (p1 p2 p3 d1 d2 d3 l1 l2 l3 h1 h2 h3 : Int) (w : World) :
    Calls Try.prog 6 #[.agg #[.int .i64 p1, .int .i64 p2, .int .i64 p3], .agg #[.int .i64 d1, .int .i64 d2, .int .i64 d3], .agg #[.int .i64 l1, .int .i64 l2, .int .i64 l3, .int .i64 h1, .int .i64 h2, .int .i64 h3]] w fun e' w' => e' = .returned (.bool true) ∧ Below w.heap.size w w' := by
  have HB := Lib.hid (Below.refl w.heap.size w)
  have BD := Lib.hid (fun W => boxed_any W)
  by_cases c0 : d1 < -1000
  case pos =>
    go_enter Try.func6, Try.ntmps6
    go_upto_region 1 with fail
    have hbx := below_new1 w (.cells #[.int .i64 p1, .int .i64 p2, .int .i64 p3] 23)
    have zx : (w.alloc (.cells #[.int .i64 p1, .int .i64 p2, .int .i64 p3] 23)).heap.size = w.heap.size + 1 := by simp
    have HB := Lib.hid hbx
    have kx := Lib.hid (Lok.new w 23 #[.int .i64 p1, .int .i64 p2, .int .i64 p3])
    clear hbx
    generalize w.alloc (.cells #[.int .i64 p1, .int .i64 p2, .int .i64 p3] 23) = Vx at *
    have hby := below_new1 Vx (.cells #[.int .i64 d1, .int .i64 d2, .int .i64 d3] 23)
    replace kx := Lib.hid (kx.out.keep hby)
    have zy : (Vx.alloc (.cells #[.int .i64 d1, .int .i64 d2, .int .i64 d3] 23)).heap.size = Vx.heap.size + 1 := by simp
    replace HB := Lib.hid (HB.out.trans (hby.mono HB.out.size))
    have ky := Lib.hid (Lok.new Vx 23 #[.int .i64 d1, .int .i64 d2, .int .i64 d3])
    clear hby
    generalize Vx.alloc (.cells #[.int .i64 d1, .int .i64 d2, .int .i64 d3] 23) = Vy at *
    rw [zx] at ky zy
    have hbb := below_new1 Vy (.cells #[.int .i64 l1, .int .i64 l2, .int .i64 l3, .int .i64 h1, .int .i64 h2, .int .i64 h3] 25)
    replace kx := Lib.hid (kx.out.keep hbb)
    replace ky := Lib.hid (ky.out.keep hbb)
    have zb : (Vy.alloc (.cells #[.int .i64 l1, .int .i64 l2, .int .i64 l3, .int .i64 h1, .int .i64 h2, .int .i64 h3] 25)).heap.size = Vy.heap.size + 1 := by simp
    replace HB := Lib.hid (HB.out.trans (hbb.mono HB.out.size))
    have kb := Lib.hid (Lok.new Vy 25 #[.int .i64 l1, .int .i64 l2, .int .i64 l3, .int .i64 h1, .int .i64 h2, .int .i64 h3])
    clear hbb
    generalize Vy.alloc (.cells #[.int .i64 l1, .int .i64 l2, .int .i64 l3, .int .i64 h1, .int .i64 h2, .int .i64 h3] 25) = Vb at *
    rw [zy] at kb
    clear zx zy zb
    have y0 := ky.out.cell (i := 0) rfl
    have y1 := ky.out.cell (i := 1) rfl
    have y2 := ky.out.cell (i := 2) rfl
    go_wp2_with fail
    (((with_reducible refine (BD.out _).mono ?_); rintro e w1 ⟨rfl, hb1⟩); replace HB := Lib.hid (HB.out.trans (hb1.mono HB.out.size)); clear hb1)
    go_wp2
    go_ret
    exact ⟨rfl, HB.out⟩
  by_cases c1 : 1000 < d1
  case pos =>
    go_enter Try.func6, Try.ntmps6
    go_upto_region 1 with fail
    have hbx := below_new1 w (.cells #[.int .i64 p1, .int .i64 p2, .int .i64 p3] 23)
    have zx : (w.alloc (.cells #[.int .i64 p1, .int .i64 p2, .int .i64 p3] 23)).heap.size = w.heap.size + 1 := by simp
    have HB := Lib.hid hbx
    have kx := Lib.hid (Lok.new w 23 #[.int .i64 p1, .int .i64 p2, .int .i64 p3])
    clear hbx
    generalize w.alloc (.cells #[.int .i64 p1, .int .i64 p2, .int .i64 p3] 23) = Vx at *
    have hby := below_new1 Vx (.cells #[.int .i64 d1, .int .i64 d2, .int .i64 d3] 23)
    replace kx := Lib.hid (kx.out.keep hby)
    have zy : (Vx.alloc (.cells #[.int .i64 d1, .int .i64 d2, .int .i64 d3] 23)).heap.size = Vx.heap.size + 1 := by simp
    replace HB := Lib.hid (HB.out.trans (hby.mono HB.out.size))
    have ky := Lib.hid (Lok.new Vx 23 #[.int .i64 d1, .int .i64 d2, .int .i64 d3])
    clear hby
    generalize Vx.alloc (.cells #[.int .i64 d1, .int .i64 d2, .int .i64 d3] 23) = Vy at *
    rw [zx] at ky zy
    have hbb := below_new1 Vy (.cells #[.int .i64 l1, .int .i64 l2, .int .i64 l3, .int .i64 h1, .int .i64 h2, .int .i64 h3] 25)
    replace kx := Lib.hid (kx.out.keep hbb)
    replace ky := Lib.hid (ky.out.keep hbb)
    have zb : (Vy.alloc (.cells #[.int .i64 l1, .int .i64 l2, .int .i64 l3, .int .i64 h1, .int .i64 h2, .int .i64 h3] 25)).heap.size = Vy.heap.size + 1 := by simp
    replace HB := Lib.hid (HB.out.trans (hbb.mono HB.out.size))
    have kb := Lib.hid (Lok.new Vy 25 #[.int .i64 l1, .int .i64 l2, .int .i64 l3, .int .i64 h1, .int .i64 h2, .int .i64 h3])
    clear hbb
    generalize Vy.alloc (.cells #[.int .i64 l1, .int .i64 l2, .int .i64 l3, .int .i64 h1, .int .i64 h2, .int .i64 h3] 25) = Vb at *
    rw [zy] at kb
    clear zx zy zb
    have y0 := ky.out.cell (i := 0) rfl
    have y1 := ky.out.cell (i := 1) rfl
    have y2 := ky.out.cell (i := 2) rfl
    go_wp2_with fail
    (((with_reducible refine (BD.out _).mono ?_); rintro e w1 ⟨rfl, hb1⟩); replace HB := Lib.hid (HB.out.trans (hb1.mono HB.out.size)); clear hb1)
    go_wp2
    go_ret
    exact ⟨rfl, HB.out⟩
  by_cases c2 : d2 < -1000
  case pos =>
    go_enter Try.func6, Try.ntmps6
    go_upto_region 1 with fail
    have hbx := below_new1 w (.cells #[.int .i64 p1, .int .i64 p2, .int .i64 p3] 23)
    have zx : (w.alloc (.cells #[.int .i64 p1, .int .i64 p2, .int .i64 p3] 23)).heap.size = w.heap.size + 1 := by simp
    have HB := Lib.hid hbx
    have kx := Lib.hid (Lok.new w 23 #[.int .i64 p1, .int .i64 p2, .int .i64 p3])
    clear hbx
    generalize w.alloc (.cells #[.int .i64 p1, .int .i64 p2, .int .i64 p3] 23) = Vx at *
    have hby := below_new1 Vx (.cells #[.int .i64 d1, .int .i64 d2, .int .i64 d3] 23)
    replace kx := Lib.hid (kx.out.keep hby)
    have zy : (Vx.alloc (.cells #[.int .i64 d1, .int .i64 d2, .int .i64 d3] 23)).heap.size = Vx.heap.size + 1 := by simp
    replace HB := Lib.hid (HB.out.trans (hby.mono HB.out.size))
    have ky := Lib.hid (Lok.new Vx 23 #[.int .i64 d1, .int .i64 d2, .int .i64 d3])
    clear hby
    generalize Vx.alloc (.cells #[.int .i64 d1, .int .i64 d2, .int .i64 d3] 23) = Vy at *
    rw [zx] at ky zy
    have hbb := below_new1 Vy (.cells #[.int .i64 l1, .int .i64 l2, .int .i64 l3, .int .i64 h1, .int .i64 h2, .int .i64 h3] 25)
    replace kx := Lib.hid (kx.out.keep hbb)
    replace ky := Lib.hid (ky.out.keep hbb)
    have zb : (Vy.alloc (.cells #[.int .i64 l1, .int .i64 l2, .int .i64 l3, .int .i64 h1, .int .i64 h2, .int .i64 h3] 25)).heap.size = Vy.heap.size + 1 := by simp
    replace HB := Lib.hid (HB.out.trans (hbb.mono HB.out.size))
    have kb := Lib.hid (Lok.new Vy 25 #[.int .i64 l1, .int .i64 l2, .int .i64 l3, .int .i64 h1, .int .i64 h2, .int .i64 h3])
    clear hbb
    generalize Vy.alloc (.cells #[.int .i64 l1, .int .i64 l2, .int .i64 l3, .int .i64 h1, .int .i64 h2, .int .i64 h3] 25) = Vb at *
    rw [zy] at kb
    clear zx zy zb
    have y0 := ky.out.cell (i := 0) rfl
    have y1 := ky.out.cell (i := 1) rfl
    have y2 := ky.out.cell (i := 2) rfl
    go_wp2_with fail
    (((with_reducible refine (BD.out _).mono ?_); rintro e w1 ⟨rfl, hb1⟩); replace HB := Lib.hid (HB.out.trans (hb1.mono HB.out.size)); clear hb1)
    go_wp2
    go_ret
    exact ⟨rfl, HB.out⟩
  by_cases c3 : 1000 < d2
  case pos =>
    go_enter Try.func6, Try.ntmps6
    go_upto_region 1 with fail
    have hbx := below_new1 w (.cells #[.int .i64 p1, .int .i64 p2, .int .i64 p3] 23)
    have zx : (w.alloc (.cells #[.int .i64 p1, .int .i64 p2, .int .i64 p3] 23)).heap.size = w.heap.size + 1 := by simp
    have HB := Lib.hid hbx
    have kx := Lib.hid (Lok.new w 23 #[.int .i64 p1, .int .i64 p2, .int .i64 p3])
    clear hbx
    generalize w.alloc (.cells #[.int .i64 p1, .int .i64 p2, .int .i64 p3] 23) = Vx at *
    have hby := below_new1 Vx (.cells #[.int .i64 d1, .int .i64 d2, .int .i64 d3] 23)
    replace kx := Lib.hid (kx.out.keep hby)
    have zy : (Vx.alloc (.cells #[.int .i64 d1, .int .i64 d2, .int .i64 d3] 23)).heap.size = Vx.heap.size + 1 := by simp
    replace HB := Lib.hid (HB.out.trans (hby.mono HB.out.size))
    have ky := Lib.hid (Lok.new Vx 23 #[.int .i64 d1, .int .i64 d2, .int .i64 d3])
    clear hby
    generalize Vx.alloc (.cells #[.int .i64 d1, .int .i64 d2, .int .i64 d3] 23) = Vy at *
    rw [zx] at ky zy
    have hbb := below_new1 Vy (.cells #[.int .i64 l1, .int .i64 l2, .int .i64 l3, .int .i64 h1, .int .i64 h2, .int .i64 h3] 25)
    replace kx := Lib.hid (kx.out.keep hbb)
    replace ky := Lib.hid (ky.out.keep hbb)
    have zb : (Vy.alloc (.cells #[.int .i64 l1, .int .i64 l2, .int .i64 l3, .int .i64 h1, .int .i64 h2, .int .i64 h3] 25)).heap.size = Vy.heap.size + 1 := by simp
    replace HB := Lib.hid (HB.out.trans (hbb.mono HB.out.size))
    have kb := Lib.hid (Lok.new Vy 25 #[.int .i64 l1, .int .i64 l2, .int .i64 l3, .int .i64 h1, .int .i64 h2, .int .i64 h3])
    clear hbb
    generalize Vy.alloc (.cells #[.int .i64 l1, .int .i64 l2, .int .i64 l3, .int .i64 h1, .int .i64 h2, .int .i64 h3] 25) = Vb at *
    rw [zy] at kb
    clear zx zy zb
    have y0 := ky.out.cell (i := 0) rfl
    have y1 := ky.out.cell (i := 1) rfl
    have y2 := ky.out.cell (i := 2) rfl
    go_wp2_with fail
    (((with_reducible refine (BD.out _).mono ?_); rintro e w1 ⟨rfl, hb1⟩); replace HB := Lib.hid (HB.out.trans (hb1.mono HB.out.size)); clear hb1)
    go_wp2
    go_ret
    exact ⟨rfl, HB.out⟩
  by_cases c4 : d3 < -1000
  case pos =>
    go_enter Try.func6, Try.ntmps6
    go_upto_region 1 with fail
    have hbx := below_new1 w (.cells #[.int .i64 p1, .int .i64 p2, .int .i64 p3] 23)
    have zx : (w.alloc (.cells #[.int .i64 p1, .int .i64 p2, .int .i64 p3] 23)).heap.size = w.heap.size + 1 := by simp
    have HB := Lib.hid hbx
    have kx := Lib.hid (Lok.new w 23 #[.int .i64 p1, .int .i64 p2, .int .i64 p3])
    clear hbx
    generalize w.alloc (.cells #[.int .i64 p1, .int .i64 p2, .int .i64 p3] 23) = Vx at *
    have hby := below_new1 Vx (.cells #[.int .i64 d1, .int .i64 d2, .int .i64 d3] 23)
    replace kx := Lib.hid (kx.out.keep hby)
    have zy : (Vx.alloc (.cells #[.int .i64 d1, .int .i64 d2, .int .i64 d3] 23)).heap.size = Vx.heap.size + 1 := by simp
    replace HB := Lib.hid (HB.out.trans (hby.mono HB.out.size))
    have ky := Lib.hid (Lok.new Vx 23 #[.int .i64 d1, .int .i64 d2, .int .i64 d3])
    clear hby
    generalize Vx.alloc (.cells #[.int .i64 d1, .int .i64 d2, .int .i64 d3] 23) = Vy at *
    rw [zx] at ky zy
    have hbb := below_new1 Vy (.cells #[.int .i64 l1, .int .i64 l2, .int .i64 l3, .int .i64 h1, .int .i64 h2, .int .i64 h3] 25)
    replace kx := Lib.hid (kx.out.keep hbb)
    replace ky := Lib.hid (ky.out.keep hbb)
    have zb : (Vy.alloc (.cells #[.int .i64 l1, .int .i64 l2, .int .i64 l3, .int .i64 h1, .int .i64 h2, .int .i64 h3] 25)).heap.size = Vy.heap.size + 1 := by simp
    replace HB := Lib.hid (HB.out.trans (hbb.mono HB.out.size))
    have kb := Lib.hid (Lok.new Vy 25 #[.int .i64 l1, .int .i64 l2, .int .i64 l3, .int .i64 h1, .int .i64 h2, .int .i64 h3])
    clear hbb
    generalize Vy.alloc (.cells #[.int .i64 l1, .int .i64 l2, .int .i64 l3, .int .i64 h1, .int .i64 h2, .int .i64 h3] 25) = Vb at *
    rw [zy] at kb
    clear zx zy zb
    have y0 := ky.out.cell (i := 0) rfl
    have y1 := ky.out.cell (i := 1) rfl
    have y2 := ky.out.cell (i := 2) rfl
    go_wp2_with fail
    (((with_reducible refine (BD.out _).mono ?_); rintro e w1 ⟨rfl, hb1⟩); replace HB := Lib.hid (HB.out.trans (hb1.mono HB.out.size)); clear hb1)
    go_wp2
    go_ret
    exact ⟨rfl, HB.out⟩
  by_cases c5 : 1000 < d3
  case pos =>
    go_enter Try.func6, Try.ntmps6
    go_upto_region 1 with fail
    have hbx := below_new1 w (.cells #[.int .i64 p1, .int .i64 p2, .int .i64 p3] 23)
    have zx : (w.alloc (.cells #[.int .i64 p1, .int .i64 p2, .int .i64 p3] 23)).heap.size = w.heap.size + 1 := by simp
    have HB := Lib.hid hbx
    have kx := Lib.hid (Lok.new w 23 #[.int .i64 p1, .int .i64 p2, .int .i64 p3])
    clear hbx
    generalize w.alloc (.cells #[.int .i64 p1, .int .i64 p2, .int .i64 p3] 23) = Vx at *
    have hby := below_new1 Vx (.cells #[.int .i64 d1, .int .i64 d2, .int .i64 d3] 23)
    replace kx := Lib.hid (kx.out.keep hby)
    have zy : (Vx.alloc (.cells #[.int .i64 d1, .int .i64 d2, .int .i64 d3] 23)).heap.size = Vx.heap.size + 1 := by simp
    replace HB := Lib.hid (HB.out.trans (hby.mono HB.out.size))
    have ky := Lib.hid (Lok.new Vx 23 #[.int .i64 d1, .int .i64 d2, .int .i64 d3])
    clear hby
    generalize Vx.alloc (.cells #[.int .i64 d1, .int .i64 d2, .int .i64 d3] 23) = Vy at *
    rw [zx] at ky zy
    have hbb := below_new1 Vy (.cells #[.int .i64 l1, .int .i64 l2, .int .i64 l3, .int .i64 h1, .int .i64 h2, .int .i64 h3] 25)
    replace kx := Lib.hid (kx.out.keep hbb)
    replace ky := Lib.hid (ky.out.keep hbb)
    have zb : (Vy.alloc (.cells #[.int .i64 l1, .int .i64 l2, .int .i64 l3, .int .i64 h1, .int .i64 h2, .int .i64 h3] 25)).heap.size = Vy.heap.size + 1 := by simp
    replace HB := Lib.hid (HB.out.trans (hbb.mono HB.out.size))
    have kb := Lib.hid (Lok.new Vy 25 #[.int .i64 l1, .int .i64 l2, .int .i64 l3, .int .i64 h1, .int .i64 h2, .int .i64 h3])
    clear hbb
    generalize Vy.alloc (.cells #[.int .i64 l1, .int .i64 l2, .int .i64 l3, .int .i64 h1, .int .i64 h2, .int .i64 h3] 25) = Vb at *
    rw [zy] at kb
    clear zx zy zb
    have y0 := ky.out.cell (i := 0) rfl
    have y1 := ky.out.cell (i := 1) rfl
    have y2 := ky.out.cell (i := 2) rfl
    go_wp2_with fail
    (((with_reducible refine (BD.out _).mono ?_); rintro e w1 ⟨rfl, hb1⟩); replace HB := Lib.hid (HB.out.trans (hb1.mono HB.out.size)); clear hb1)
    go_wp2
    go_ret
    exact ⟨rfl, HB.out⟩
  have HS := Lib.hid (fun W => slhas_any l1 l2 l3 h1 h2 h3 p1 p2 p3 W)
  cases hh : bxH l1 l2 l3 h1 h2 h3 p1 p2 p3 with
  | false =>
    rw [hh] at HS
    clear hh
    go_enter Try.func6, Try.ntmps6
    go_upto_region 1 with fail
    have hbx := below_new1 w (.cells #[.int .i64 p1, .int .i64 p2, .int .i64 p3] 23)
    have zx : (w.alloc (.cells #[.int .i64 p1, .int .i64 p2, .int .i64 p3] 23)).heap.size = w.heap.size + 1 := by simp
    have HB := Lib.hid hbx
    have kx := Lib.hid (Lok.new w 23 #[.int .i64 p1, .int .i64 p2, .int .i64 p3])
    clear hbx
    generalize w.alloc (.cells #[.int .i64 p1, .int .i64 p2, .int .i64 p3] 23) = Vx at *
    have hby := below_new1 Vx (.cells #[.int .i64 d1, .int .i64 d2, .int .i64 d3] 23)
    replace kx := Lib.hid (kx.out.keep hby)
    have zy : (Vx.alloc (.cells #[.int .i64 d1, .int .i64 d2, .int .i64 d3] 23)).heap.size = Vx.heap.size + 1 := by simp
    replace HB := Lib.hid (HB.out.trans (hby.mono HB.out.size))
    have ky := Lib.hid (Lok.new Vx 23 #[.int .i64 d1, .int .i64 d2, .int .i64 d3])
    clear hby
    generalize Vx.alloc (.cells #[.int .i64 d1, .int .i64 d2, .int .i64 d3] 23) = Vy at *
    rw [zx] at ky zy
    have hbb := below_new1 Vy (.cells #[.int .i64 l1, .int .i64 l2, .int .i64 l3, .int .i64 h1, .int .i64 h2, .int .i64 h3] 25)
    replace kx := Lib.hid (kx.out.keep hbb)
    replace ky := Lib.hid (ky.out.keep hbb)
    have zb : (Vy.alloc (.cells #[.int .i64 l1, .int .i64 l2, .int .i64 l3, .int .i64 h1, .int .i64 h2, .int .i64 h3] 25)).heap.size = Vy.heap.size + 1 := by simp
    replace HB := Lib.hid (HB.out.trans (hbb.mono HB.out.size))
    have kb := Lib.hid (Lok.new Vy 25 #[.int .i64 l1, .int .i64 l2, .int .i64 l3, .int .i64 h1, .int .i64 h2, .int .i64 h3])
    clear hbb
    generalize Vy.alloc (.cells #[.int .i64 l1, .int .i64 l2, .int .i64 l3, .int .i64 h1, .int .i64 h2, .int .i64 h3] 25) = Vb at *
    rw [zy] at kb
    clear zx zy zb
    have x0 := kx.out.cell (i := 0) rfl
    have x1 := kx.out.cell (i := 1) rfl
    have x2 := kx.out.cell (i := 2) rfl
    have y0 := ky.out.cell (i := 0) rfl
    have y1 := ky.out.cell (i := 1) rfl
    have y2 := ky.out.cell (i := 2) rfl
    have b0 := kb.out.cell (i := 0) rfl
    have b1 := kb.out.cell (i := 1) rfl
    have b2 := kb.out.cell (i := 2) rfl
    have b3 := kb.out.cell (i := 3) rfl
    have b4 := kb.out.cell (i := 4) rfl
    have b5 := kb.out.cell (i := 5) rfl
    go_wp2_with fail
    clear x0 x1 x2 y0 y1 y2 b0 b1 b2 b3 b4 b5
    (((with_reducible refine (HS.out _).mono ?_); rintro e w1 ⟨rfl, hb1⟩); replace HB := Lib.hid (HB.out.trans (hb1.mono HB.out.size)); replace kx := Lib.hid (kx.out.keep hb1); replace ky := Lib.hid (ky.out.keep hb1); replace kb := Lib.hid (kb.out.keep hb1); clear hb1)
    clear kx ky kb HS
    go_wp2_with fail
    (((with_reducible refine (BD.out _).mono ?_); rintro e w2 ⟨rfl, hb2⟩); replace HB := Lib.hid (HB.out.trans (hb2.mono HB.out.size)); clear hb2)
    go_wp2
    go_ret
    exact ⟨rfl, HB.out⟩
  | true =>
    rw [hh] at HS
    have hp := s3_iff.1 (bxH_small hh)
    unfold SM at hp
    have hbr := (bxH_iff.1 hh).1
    obtain ⟨na1, ena1⟩ : ∃ x, x = p1 - d1 := ⟨_, rfl⟩
    have wna1 : IntKind.i64.wrap (p1 - d1) = na1 := by rw [ena1]; exact IntWalk.i64_in _ (by omega)
    obtain ⟨nc1, enc1⟩ : ∃ x, x = p1 + d1 := ⟨_, rfl⟩
    have wnc1 : IntKind.i64.wrap (p1 + d1) = nc1 := by rw [enc1]; exact IntWalk.i64_in _ (by omega)
    obtain ⟨nt1, ent1⟩ : ∃ x, x = 3 * d1 := ⟨_, rfl⟩
    have wnt1 : IntKind.i64.wrap (3 * d1) = nt1 := by rw [ent1]; exact IntWalk.i64_in _ (by omega)
    obtain ⟨nf1, enf1⟩ : ∃ x, x = p1 + nt1 := ⟨_, rfl⟩
    have wnf1 : IntKind.i64.wrap (p1 + nt1) = nf1 := by rw [enf1, ent1]; exact IntWalk.i64_in _ (by omega)
    obtain ⟨na2, ena2⟩ : ∃ x, x = p2 - d2 := ⟨_, rfl⟩
    have wna2 : IntKind.i64.wrap (p2 - d2) = na2 := by rw [ena2]; exact IntWalk.i64_in _ (by omega)
    obtain ⟨nc2, enc2⟩ : ∃ x, x = p2 + d2 := ⟨_, rfl⟩
    have wnc2 : IntKind.i64.wrap (p2 + d2) = nc2 := by rw [enc2]; exact IntWalk.i64_in _ (by omega)
    obtain ⟨nt2, ent2⟩ : ∃ x, x = 3 * d2 := ⟨_, rfl⟩
    have wnt2 : IntKind.i64.wrap (3 * d2) = nt2 := by rw [ent2]; exact IntWalk.i64_in _ (by omega)
    obtain ⟨nf2, enf2⟩ : ∃ x, x = p2 + nt2 := ⟨_, rfl⟩
    have wnf2 : IntKind.i64.wrap (p2 + nt2) = nf2 := by rw [enf2, ent2]; exact IntWalk.i64_in _ (by omega)
    obtain ⟨na3, ena3⟩ : ∃ x, x = p3 - d3 := ⟨_, rfl⟩
    have wna3 : IntKind.i64.wrap (p3 - d3) = na3 := by rw [ena3]; exact IntWalk.i64_in _ (by omega)
    obtain ⟨nc3, enc3⟩ : ∃ x, x = p3 + d3 := ⟨_, rfl⟩
    have wnc3 : IntKind.i64.wrap (p3 + d3) = nc3 := by rw [enc3]; exact IntWalk.i64_in _ (by omega)
    obtain ⟨nt3, ent3⟩ : ∃ x, x = 3 * d3 := ⟨_, rfl⟩
    have wnt3 : IntKind.i64.wrap (3 * d3) = nt3 := by rw [ent3]; exact IntWalk.i64_in _ (by omega)
    obtain ⟨nf3, enf3⟩ : ∃ x, x = p3 + nt3 := ⟨_, rfl⟩
    have wnf3 : IntKind.i64.wrap (p3 + nt3) = nf3 := by rw [enf3, ent3]; exact IntWalk.i64_in _ (by omega)
    have Q1 : meP na1 na2 na3 nc1 nc2 nc3 l1 l2 l3 h1 h2 h3 = true := by rw [ena1, ena2, ena3, enc1, enc2, enc3]; exact meP_half d1 d2 d3 hh
    have Q2 : meP nf1 nf2 nf3 na1 na2 na3 l1 l2 l3 h1 h2 h3 = true := by rw [enf1, enf2, enf3, ent1, ent2, ent3, ena1, ena2, ena3]; exact meP_quarter d1 d2 d3 hh
    have M1 := Lib.hid (fun W => meets_any na1 na2 na3 nc1 nc2 nc3 l1 l2 l3 h1 h2 h3 _ rfl W)
    rw [Q1, hbr, Bool.true_and, Bool.and_true] at M1
    generalize (s3 na1 na2 na3 && s3 nc1 nc2 nc3) = tM1 at *
    have M2 := Lib.hid (fun W => meets_any nf1 nf2 nf3 na1 na2 na3 l1 l2 l3 h1 h2 h3 _ rfl W)
    rw [Q2, hbr, Bool.true_and, Bool.and_true] at M2
    generalize (s3 nf1 nf2 nf3 && s3 na1 na2 na3) = tM2 at *
    clear Q1 Q2 hh hp hbr ena1 ena2 ena3 enc1 enc2 enc3 ent1 ent2 ent3 enf1 enf2 enf3
    go_enter Try.func6, Try.ntmps6
    go_upto_region 1 with fail
    have hbx := below_new1 w (.cells #[.int .i64 p1, .int .i64 p2, .int .i64 p3] 23)
    have zx : (w.alloc (.cells #[.int .i64 p1, .int .i64 p2, .int .i64 p3] 23)).heap.size = w.heap.size + 1 := by simp
    have HB := Lib.hid hbx
    have kx := Lib.hid (Lok.new w 23 #[.int .i64 p1, .int .i64 p2, .int .i64 p3])
    clear hbx
    generalize w.alloc (.cells #[.int .i64 p1, .int .i64 p2, .int .i64 p3] 23) = Vx at *
    have hby := below_new1 Vx (.cells #[.int .i64 d1, .int .i64 d2, .int .i64 d3] 23)
    replace kx := Lib.hid (kx.out.keep hby)
    have zy : (Vx.alloc (.cells #[.int .i64 d1, .int .i64 d2, .int .i64 d3] 23)).heap.size = Vx.heap.size + 1 := by simp
    replace HB := Lib.hid (HB.out.trans (hby.mono HB.out.size))
    have ky := Lib.hid (Lok.new Vx 23 #[.int .i64 d1, .int .i64 d2, .int .i64 d3])
    clear hby
    generalize Vx.alloc (.cells #[.int .i64 d1, .int .i64 d2, .int .i64 d3] 23) = Vy at *
    rw [zx] at ky zy
    have hbb := below_new1 Vy (.cells #[.int .i64 l1, .int .i64 l2, .int .i64 l3, .int .i64 h1, .int .i64 h2, .int .i64 h3] 25)
    replace kx := Lib.hid (kx.out.keep hbb)
    replace ky := Lib.hid (ky.out.keep hbb)
    have zb : (Vy.alloc (.cells #[.int .i64 l1, .int .i64 l2, .int .i64 l3, .int .i64 h1, .int .i64 h2, .int .i64 h3] 25)).heap.size = Vy.heap.size + 1 := by simp
    replace HB := Lib.hid (HB.out.trans (hbb.mono HB.out.size))
    have kb := Lib.hid (Lok.new Vy 25 #[.int .i64 l1, .int .i64 l2, .int .i64 l3, .int .i64 h1, .int .i64 h2, .int .i64 h3])
    clear hbb
    generalize Vy.alloc (.cells #[.int .i64 l1, .int .i64 l2, .int .i64 l3, .int .i64 h1, .int .i64 h2, .int .i64 h3] 25) = Vb at *
    rw [zy] at kb
    clear zx zy zb
    have x0 := kx.out.cell (i := 0) rfl
    have x1 := kx.out.cell (i := 1) rfl
    have x2 := kx.out.cell (i := 2) rfl
    have y0 := ky.out.cell (i := 0) rfl
    have y1 := ky.out.cell (i := 1) rfl
    have y2 := ky.out.cell (i := 2) rfl
    have b0 := kb.out.cell (i := 0) rfl
    have b1 := kb.out.cell (i := 1) rfl
    have b2 := kb.out.cell (i := 2) rfl
    have b3 := kb.out.cell (i := 3) rfl
    have b4 := kb.out.cell (i := 4) rfl
    have b5 := kb.out.cell (i := 5) rfl
    go_wp2_with fail
    clear x0 x1 x2 y0 y1 y2 b0 b1 b2 b3 b4 b5
    (((with_reducible refine (HS.out _).mono ?_); rintro e w1 ⟨rfl, hb1⟩); replace HB := Lib.hid (HB.out.trans (hb1.mono HB.out.size)); replace kx := Lib.hid (kx.out.keep hb1); replace ky := Lib.hid (ky.out.keep hb1); replace kb := Lib.hid (kb.out.keep hb1); clear hb1)
    clear HS
    have x0 := kx.out.cell (i := 0) rfl
    have x1 := kx.out.cell (i := 1) rfl
    have x2 := kx.out.cell (i := 2) rfl
    have y0 := ky.out.cell (i := 0) rfl
    have y1 := ky.out.cell (i := 1) rfl
    have y2 := ky.out.cell (i := 2) rfl
    go_upto_region 4 with fail
    clear x0 x1 x2 y0 y1 y2
    have hbm := below_new1 w1 (.cells #[.int .i64 na1, .int .i64 na2, .int .i64 na3] 23)
    replace kx := Lib.hid (kx.out.keep hbm)
    replace ky := Lib.hid (ky.out.keep hbm)
    replace kb := Lib.hid (kb.out.keep hbm)
    have zm : (w1.alloc (.cells #[.int .i64 na1, .int .i64 na2, .int .i64 na3] 23)).heap.size = w1.heap.size + 1 := by simp
    replace HB := Lib.hid (HB.out.trans (hbm.mono HB.out.size))
    have km := Lib.hid (Lok.new w1 23 #[.int .i64 na1, .int .i64 na2, .int .i64 na3])
    clear hbm
    generalize w1.alloc (.cells #[.int .i64 na1, .int .i64 na2, .int .i64 na3] 23) = Vm at *
    clear zm
    have x0 := kx.out.cell (i := 0) rfl
    have x1 := kx.out.cell (i := 1) rfl
    have x2 := kx.out.cell (i := 2) rfl
    have y0 := ky.out.cell (i := 0) rfl
    have y1 := ky.out.cell (i := 1) rfl
    have y2 := ky.out.cell (i := 2) rfl
    go_upto_region 5 with fail
    clear x0 x1 x2 y0 y1 y2
    have hbn := below_new1 Vm (.cells #[.int .i64 nc1, .int .i64 nc2, .int .i64 nc3] 23)
    replace kx := Lib.hid (kx.out.keep hbn)
    replace ky := Lib.hid (ky.out.keep hbn)
    replace kb := Lib.hid (kb.out.keep hbn)
    replace km := Lib.hid (km.out.keep hbn)
    have zn : (Vm.alloc (.cells #[.int .i64 nc1, .int .i64 nc2, .int .i64 nc3] 23)).heap.size = Vm.heap.size + 1 := by simp
    replace HB := Lib.hid (HB.out.trans (hbn.mono HB.out.size))
    have kn := Lib.hid (Lok.new Vm 23 #[.int .i64 nc1, .int .i64 nc2, .int .i64 nc3])
    clear hbn
    generalize Vm.alloc (.cells #[.int .i64 nc1, .int .i64 nc2, .int .i64 nc3] 23) = Vn at *
    clear zn
    have x0 := kx.out.cell (i := 0) rfl
    have x1 := kx.out.cell (i := 1) rfl
    have x2 := kx.out.cell (i := 2) rfl
    have y0 := ky.out.cell (i := 0) rfl
    have y1 := ky.out.cell (i := 1) rfl
    have y2 := ky.out.cell (i := 2) rfl
    go_upto_region 6 with fail
    clear x0 x1 x2 y0 y1 y2
    have hbf := below_new1 Vn (.cells #[.int .i64 nf1, .int .i64 nf2, .int .i64 nf3] 23)
    replace kx := Lib.hid (kx.out.keep hbf)
    replace ky := Lib.hid (ky.out.keep hbf)
    replace kb := Lib.hid (kb.out.keep hbf)
    replace km := Lib.hid (km.out.keep hbf)
    replace kn := Lib.hid (kn.out.keep hbf)
    have zf : (Vn.alloc (.cells #[.int .i64 nf1, .int .i64 nf2, .int .i64 nf3] 23)).heap.size = Vn.heap.size + 1 := by simp
    replace HB := Lib.hid (HB.out.trans (hbf.mono HB.out.size))
    have kf := Lib.hid (Lok.new Vn 23 #[.int .i64 nf1, .int .i64 nf2, .int .i64 nf3])
    clear hbf
    generalize Vn.alloc (.cells #[.int .i64 nf1, .int .i64 nf2, .int .i64 nf3] 23) = Vf at *
    clear zf
    clear kx ky wna1 wna2 wna3 wnc1 wnc2 wnc3 wnt1 wnt2 wnt3 wnf1 wnf2 wnf3
    have m0 := km.out.cell (i := 0) rfl
    have m1 := km.out.cell (i := 1) rfl
    have m2 := km.out.cell (i := 2) rfl
    have n0 := kn.out.cell (i := 0) rfl
    have n1 := kn.out.cell (i := 1) rfl
    have n2 := kn.out.cell (i := 2) rfl
    have b0 := kb.out.cell (i := 0) rfl
    have b1 := kb.out.cell (i := 1) rfl
    have b2 := kb.out.cell (i := 2) rfl
    have b3 := kb.out.cell (i := 3) rfl
    have b4 := kb.out.cell (i := 4) rfl
    have b5 := kb.out.cell (i := 5) rfl
    go_wp2_with fail
    clear m0 m1 m2 n0 n1 n2 b0 b1 b2 b3 b4 b5
    (((with_reducible refine (M1.out _).mono ?_); rintro e w2 ⟨rfl, hb2⟩); replace HB := Lib.hid (HB.out.trans (hb2.mono HB.out.size)); replace kb := Lib.hid (kb.out.keep hb2); replace km := Lib.hid (km.out.keep hb2); replace kn := Lib.hid (kn.out.keep hb2); replace kf := Lib.hid (kf.out.keep hb2); clear hb2)
    clear M1
    have f0 := kf.out.cell (i := 0) rfl
    have f1 := kf.out.cell (i := 1) rfl
    have f2 := kf.out.cell (i := 2) rfl
    have m0 := km.out.cell (i := 0) rfl
    have m1 := km.out.cell (i := 1) rfl
    have m2 := km.out.cell (i := 2) rfl
    have b0 := kb.out.cell (i := 0) rfl
    have b1 := kb.out.cell (i := 1) rfl
    have b2 := kb.out.cell (i := 2) rfl
    have b3 := kb.out.cell (i := 3) rfl
    have b4 := kb.out.cell (i := 4) rfl
    have b5 := kb.out.cell (i := 5) rfl
    go_wp2_with fail
    clear f0 f1 f2 m0 m1 m2 b0 b1 b2 b3 b4 b5
    (((with_reducible refine (M2.out _).mono ?_); rintro e w3 ⟨rfl, hb3⟩); replace HB := Lib.hid (HB.out.trans (hb3.mono HB.out.size)); replace kb := Lib.hid (kb.out.keep hb3); replace km := Lib.hid (km.out.keep hb3); replace kn := Lib.hid (kn.out.keep hb3); replace kf := Lib.hid (kf.out.keep hb3); clear hb3)
    clear M2 km kn kf kb
    go_wp2_with fail
    (((with_reducible refine (BD.out _).mono ?_); rintro e w4 ⟨rfl, hb4⟩); replace HB := Lib.hid (HB.out.trans (hb4.mono HB.out.size)); clear hb4)
    clear BD
    cases tM1 with
    | false =>
      cases tM2 with
      | false =>
        go_wp2
        go_ret
        exact ⟨rfl, HB.out⟩
      | true =>
        go_wp2
        go_ret
        exact ⟨rfl, HB.out⟩
    | true =>
      cases tM2 with
      | false =>
        go_wp2
        go_ret
        exact ⟨rfl, HB.out⟩
      | true =>
        go_wp2
        go_ret
        exact ⟨rfl, HB.out⟩
end Go.Proofs.Ytfghjfgdjlkooaa
