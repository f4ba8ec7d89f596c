/-
  Contracts of package vec: parts, cross, drop, below.
-/
import Derived.Test.YtfghjfgdjlkooaaVcB
import Derived.Lib.MinMax
import Derived.RegionTactic
import Derived.BigRegion
import Derived.Deep.Cut
namespace Go.Proofs.Ytfghjfgdjlkooaa
open Go.RowKit

set_option maxRecDepth 100000 in
set_option maxHeartbeats 1000000 in
theorem parts_any (x y z : Int) (w : World) :
    Calls Try.prog 72 #[.agg #[.int .i64 x, .int .i64 y, .int .i64 z]] w fun e w' => e = .returned (.agg #[.int .i64 x, .int .i64 y, .int .i64 z]) ∧ Below w.heap.size w w' := by
  go_enter Try.func72, Try.ntmps72
  go_wp2
  exact bodyPost_ret (v := .agg #[.int .i64 x, .int .i64 y, .int .i64 z]) (by simp [results, Try.results72, go_sem, *]) rfl ⟨rfl, by (repeat (first | exact Below.refl _ _ | assumption | refine Below.drew ?_ | refine below_drewN ?_ _ | refine Below.setCell ?_ (by first | omega | (simp; done) | (simp; omega)) _ | refine Below.alloc ?_ (by first | omega | (simp; done) | (simp; omega)) _))⟩

/-- A cross product's parts stay within 64 bits. -/
theorem cross_wraps {a b c d : Int} (ha : NR a) (hb : NR b) (hc : NR c) (hd : NR d) :
    IntKind.i64.wrap (a * d) = a * d ∧ IntKind.i64.wrap (b * c) = b * c ∧ IntKind.i64.wrap (a * d - b * c) = a * d - b * c := by
  have p := near_prod ha hd
  have q := near_prod hb hc
  exact ⟨IntWalk.i64_in _ (by omega), IntWalk.i64_in _ (by omega), IntWalk.i64_in _ (by omega)⟩

set_option maxRecDepth 100000 in
set_option maxHeartbeats 1000000 in
theorem cross_any (a b c d : Int) (w : World) (h : n2 a b = true) (k : n2 c d = true) :
    Calls Try.prog 64 #[.agg #[.int .i64 a, .int .i64 b], .agg #[.int .i64 c, .int .i64 d]] w fun e w' => e = .returned (.int .i64 (a * d - b * c)) ∧ Below w.heap.size w w' := by
  obtain ⟨ha, hb⟩ := n2_iff.1 h
  obtain ⟨hc, hd⟩ := n2_iff.1 k
  obtain ⟨e1, e2, e3⟩ := cross_wraps ha hb hc hd
  clear h k ha hb hc hd
  go_enter Try.func64, Try.ntmps64
  go_wp2
  go_ret
  exact ⟨rfl, by (repeat (first | exact Below.refl _ _ | assumption | refine Below.drew ?_ | refine below_drewN ?_ _ | refine Below.setCell ?_ (by first | omega | (simp; done) | (simp; omega)) _ | refine Below.alloc ?_ (by first | omega | (simp; done) | (simp; omega)) _))⟩

/-- A part by its axis. -/
def pt (x y z : Int) (k : Nat) : Int := if k = 0 then x else if k = 1 then y else z
def dX (x y z : Int) (k : Nat) : Int := pt x y z ((k + 1) % 3)
def dY (x y z : Int) (k : Nat) : Int := pt x y z ((k + 2) % 3)

set_option maxRecDepth 100000 in
set_option maxHeartbeats 1000000 in
theorem drop_any (x y z : Int) (k : Nat) (w : World) (h : k < 3) :
    Calls Try.prog 65 #[.agg #[.int .i64 x, .int .i64 y, .int .i64 z], .int .i64 k] w fun e w' => e = .returned (.agg #[.int .i64 (dX x y z k), .int .i64 (dY x y z k)]) ∧ Below w.heap.size w w' := by
  have HB := Lib.hid (Below.refl w.heap.size w)
  have P := Lib.hid (fun W => parts_any x y z W)
  rcases show k = 0 ∨ k = 1 ∨ k = 2 by omega with rfl | rfl | rfl
  · go_enter Try.func65, Try.ntmps65
    go_upto_region 1 with fail
    have hbx := below_new1 w (.cells #[.int .i64 x, .int .i64 y, .int .i64 z] 23)
    have zx : (w.alloc (.cells #[.int .i64 x, .int .i64 y, .int .i64 z] 23)).heap.size = w.heap.size + 1 := by simp
    have HB := Lib.hid hbx
    have kx := Lib.hid (Lok.new w 23 #[.int .i64 x, .int .i64 y, .int .i64 z])
    clear hbx
    generalize w.alloc (.cells #[.int .i64 x, .int .i64 y, .int .i64 z] 23) = Vx at *
    have hby := below_new1 Vx (.cells #[.int .i64 0, .int .i64 0] 93)
    replace kx := Lib.hid (kx.out.keep hby)
    have zy : (Vx.alloc (.cells #[.int .i64 0, .int .i64 0] 93)).heap.size = Vx.heap.size + 1 := by simp
    replace HB := Lib.hid (HB.out.trans (hby.mono HB.out.size))
    have ky := Lib.hid (Lok.new Vx 93 #[.int .i64 0, .int .i64 0])
    clear hby
    generalize Vx.alloc (.cells #[.int .i64 0, .int .i64 0] 93) = Vy at *
    rw [zx] at ky
    clear zx zy
    have x0 := kx.out.cell (i := 0) rfl
    have x1 := kx.out.cell (i := 1) rfl
    have x2 := kx.out.cell (i := 2) rfl
    go_wp2_with fail
    clear x0 x1 x2
    ((with_reducible refine (P.out _).mono ?_); rintro e w1 ⟨rfl, hb1⟩)
    replace HB := Lib.hid (HB.out.trans (hb1.mono HB.out.size))
    replace ky := Lib.hid (ky.out.keep hb1)
    clear hb1
    go_wp2_with fail
    have hb1 := below_new1 w1 (.cells #[.int .i64 x, .int .i64 y, .int .i64 z] 47)
    replace HB := Lib.hid (HB.out.trans (hb1.mono HB.out.size))
    replace ky := Lib.hid (ky.out.keep hb1)
    have k1 := Lib.hid (Lok.new w1 47 #[.int .i64 x, .int .i64 y, .int .i64 z])
    clear hb1
    generalize w1.alloc (.cells #[.int .i64 x, .int .i64 y, .int .i64 z] 47) = V1 at *
    generalize w1.heap.size = g1 at *
    have c0 := k1.out.cell (i := 0) rfl
    have c1 := k1.out.cell (i := 1) rfl
    have c2 := k1.out.cell (i := 2) rfl
    have y0 := ky.out.cell (i := 0) rfl
    have y1 := ky.out.cell (i := 1) rfl
    have f0 := ky.out.frozen 0
    have f1 := ky.out.frozen 1
    go_wp2_with fail
    go_region
    go_wp2
    exact bodyPost_ret (v := .agg #[.int .i64 y, .int .i64 z]) (by simp [results, Try.results65, go_sem, y0, y1]) rfl ⟨rfl, below_drewN ((HB.out.setCell (by simp) _).setCell (by simp) _) 1⟩
  · go_enter Try.func65, Try.ntmps65
    go_upto_region 1 with fail
    have hbx := below_new1 w (.cells #[.int .i64 x, .int .i64 y, .int .i64 z] 23)
    have zx : (w.alloc (.cells #[.int .i64 x, .int .i64 y, .int .i64 z] 23)).heap.size = w.heap.size + 1 := by simp
    have HB := Lib.hid hbx
    have kx := Lib.hid (Lok.new w 23 #[.int .i64 x, .int .i64 y, .int .i64 z])
    clear hbx
    generalize w.alloc (.cells #[.int .i64 x, .int .i64 y, .int .i64 z] 23) = Vx at *
    have hby := below_new1 Vx (.cells #[.int .i64 0, .int .i64 0] 93)
    replace kx := Lib.hid (kx.out.keep hby)
    have zy : (Vx.alloc (.cells #[.int .i64 0, .int .i64 0] 93)).heap.size = Vx.heap.size + 1 := by simp
    replace HB := Lib.hid (HB.out.trans (hby.mono HB.out.size))
    have ky := Lib.hid (Lok.new Vx 93 #[.int .i64 0, .int .i64 0])
    clear hby
    generalize Vx.alloc (.cells #[.int .i64 0, .int .i64 0] 93) = Vy at *
    rw [zx] at ky
    clear zx zy
    have x0 := kx.out.cell (i := 0) rfl
    have x1 := kx.out.cell (i := 1) rfl
    have x2 := kx.out.cell (i := 2) rfl
    go_wp2_with fail
    clear x0 x1 x2
    ((with_reducible refine (P.out _).mono ?_); rintro e w1 ⟨rfl, hb1⟩)
    replace HB := Lib.hid (HB.out.trans (hb1.mono HB.out.size))
    replace ky := Lib.hid (ky.out.keep hb1)
    clear hb1
    go_wp2_with fail
    have hb1 := below_new1 w1 (.cells #[.int .i64 x, .int .i64 y, .int .i64 z] 47)
    replace HB := Lib.hid (HB.out.trans (hb1.mono HB.out.size))
    replace ky := Lib.hid (ky.out.keep hb1)
    have k1 := Lib.hid (Lok.new w1 47 #[.int .i64 x, .int .i64 y, .int .i64 z])
    clear hb1
    generalize w1.alloc (.cells #[.int .i64 x, .int .i64 y, .int .i64 z] 47) = V1 at *
    generalize w1.heap.size = g1 at *
    have c0 := k1.out.cell (i := 0) rfl
    have c1 := k1.out.cell (i := 1) rfl
    have c2 := k1.out.cell (i := 2) rfl
    have y0 := ky.out.cell (i := 0) rfl
    have y1 := ky.out.cell (i := 1) rfl
    have f0 := ky.out.frozen 0
    have f1 := ky.out.frozen 1
    go_wp2_with fail
    go_region
    go_wp2
    exact bodyPost_ret (v := .agg #[.int .i64 z, .int .i64 x]) (by simp [results, Try.results65, go_sem, y0, y1]) rfl ⟨rfl, below_drewN ((HB.out.setCell (by simp) _).setCell (by simp) _) 1⟩
  · go_enter Try.func65, Try.ntmps65
    go_upto_region 1 with fail
    have hbx := below_new1 w (.cells #[.int .i64 x, .int .i64 y, .int .i64 z] 23)
    have zx : (w.alloc (.cells #[.int .i64 x, .int .i64 y, .int .i64 z] 23)).heap.size = w.heap.size + 1 := by simp
    have HB := Lib.hid hbx
    have kx := Lib.hid (Lok.new w 23 #[.int .i64 x, .int .i64 y, .int .i64 z])
    clear hbx
    generalize w.alloc (.cells #[.int .i64 x, .int .i64 y, .int .i64 z] 23) = Vx at *
    have hby := below_new1 Vx (.cells #[.int .i64 0, .int .i64 0] 93)
    replace kx := Lib.hid (kx.out.keep hby)
    have zy : (Vx.alloc (.cells #[.int .i64 0, .int .i64 0] 93)).heap.size = Vx.heap.size + 1 := by simp
    replace HB := Lib.hid (HB.out.trans (hby.mono HB.out.size))
    have ky := Lib.hid (Lok.new Vx 93 #[.int .i64 0, .int .i64 0])
    clear hby
    generalize Vx.alloc (.cells #[.int .i64 0, .int .i64 0] 93) = Vy at *
    rw [zx] at ky
    clear zx zy
    have x0 := kx.out.cell (i := 0) rfl
    have x1 := kx.out.cell (i := 1) rfl
    have x2 := kx.out.cell (i := 2) rfl
    go_wp2_with fail
    clear x0 x1 x2
    ((with_reducible refine (P.out _).mono ?_); rintro e w1 ⟨rfl, hb1⟩)
    replace HB := Lib.hid (HB.out.trans (hb1.mono HB.out.size))
    replace ky := Lib.hid (ky.out.keep hb1)
    clear hb1
    go_wp2_with fail
    have hb1 := below_new1 w1 (.cells #[.int .i64 x, .int .i64 y, .int .i64 z] 47)
    replace HB := Lib.hid (HB.out.trans (hb1.mono HB.out.size))
    replace ky := Lib.hid (ky.out.keep hb1)
    have k1 := Lib.hid (Lok.new w1 47 #[.int .i64 x, .int .i64 y, .int .i64 z])
    clear hb1
    generalize w1.alloc (.cells #[.int .i64 x, .int .i64 y, .int .i64 z] 47) = V1 at *
    generalize w1.heap.size = g1 at *
    have c0 := k1.out.cell (i := 0) rfl
    have c1 := k1.out.cell (i := 1) rfl
    have c2 := k1.out.cell (i := 2) rfl
    have y0 := ky.out.cell (i := 0) rfl
    have y1 := ky.out.cell (i := 1) rfl
    have f0 := ky.out.frozen 0
    have f1 := ky.out.frozen 1
    go_wp2_with fail
    go_region
    go_wp2
    exact bodyPost_ret (v := .agg #[.int .i64 x, .int .i64 y]) (by simp [results, Try.results65, go_sem, y0, y1]) rfl ⟨rfl, below_drewN ((HB.out.setCell (by simp) _).setCell (by simp) _) 1⟩

theorem below_wrap {n : Int} (h : -9223372036854775808 ≤ n) (k : n ≤ 9223372036854775807) : (n = -9223372036854775808 ∧ IntKind.i64.wrap (-n) = n) ∨ IntKind.i64.wrap (-n) = -n := by
  by_cases e : n = -9223372036854775808
  · exact .inl ⟨e, by rw [e]; decide⟩
  · exact .inr (IntWalk.i64_in _ (by omega))
end Go.Proofs.Ytfghjfgdjlkooaa
