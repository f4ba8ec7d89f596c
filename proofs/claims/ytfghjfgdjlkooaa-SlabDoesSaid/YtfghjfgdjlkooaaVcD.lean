/-
  Contracts of package vec: Sub2, Sub3, Cross2, Drop.
-/
import Derived.Test.YtfghjfgdjlkooaaVcC
namespace Go.Proofs.Ytfghjfgdjlkooaa
open Go.RowKit

/-- A difference, where both are near. -/
def sF (b : Bool) (x y : Int) : Int := if b = true then x - y else 0
/-- The error where one is not near. -/
def rE (b : Bool) : Int := if b = true then 0 else 5
theorem sub_wrap {x y : Int} (h : NR x) (k : NR y) : IntKind.i64.wrap (x - y) = x - y := IntWalk.i64_in _ (by unfold NR at h k; omega)
theorem is3_b (a b c d e f : Int) (t : Bool) (ht : (n3 a b c && n3 d e f) = t) (g : Nat) (T : TypeId) (w : World) (h : Lok w g T #[.int .i64 a, .int .i64 b, .int .i64 c, .int .i64 d, .int .i64 e, .int .i64 f]) :
    Calls Try.prog 58 #[.slice (some ⟨g, 0, none⟩) 2 2] w fun e' w' => e' = .returned (.bool t) ∧ Below w.heap.size w w' := by
  rw [← ht]; exact is3_two a b c d e f g T w h

set_option maxRecDepth 100000 in
set_option maxHeartbeats 1000000 in
theorem sub3_any (a b c d e f : Int) (w : World) :
    Calls Try.prog 47 #[.agg #[.int .i64 a, .int .i64 b, .int .i64 c], .agg #[.int .i64 d, .int .i64 e, .int .i64 f]] w fun e' w' => e' = .returned (.agg #[.int .i64 (sF (n3 a b c && n3 d e f) a d), .int .i64 (sF (n3 a b c && n3 d e f) b e), .int .i64 (sF (n3 a b c && n3 d e f) c f)]) ∧ Below w.heap.size w w' := by
  have HB := Lib.hid (Below.refl w.heap.size w)
  cases ht : n3 a b c && n3 d e f with
  | false =>
    have I := Lib.hid (fun g T W h => is3_b a b c d e f false ht g T W h)
    rw [show sF false a d = 0 from rfl, show sF false b e = 0 from rfl, show sF false c f = 0 from rfl]
    clear ht
    go_enter Try.func47, Try.ntmps47
    go_upto_region 1 with fail
    have hbx := below_new1 w (.cells #[.int .i64 a, .int .i64 b, .int .i64 c] 23)
    have zx : (w.alloc (.cells #[.int .i64 a, .int .i64 b, .int .i64 c] 23)).heap.size = w.heap.size + 1 := by simp
    have HB := Lib.hid hbx
    have kx := Lib.hid (Lok.new w 23 #[.int .i64 a, .int .i64 b, .int .i64 c])
    clear hbx
    generalize w.alloc (.cells #[.int .i64 a, .int .i64 b, .int .i64 c] 23) = Vx at *
    have hby := below_new1 Vx (.cells #[.int .i64 d, .int .i64 e, .int .i64 f] 23)
    replace kx := Lib.hid (kx.out.keep hby)
    have zy : (Vx.alloc (.cells #[.int .i64 d, .int .i64 e, .int .i64 f] 23)).heap.size = Vx.heap.size + 1 := by simp
    replace HB := Lib.hid (HB.out.trans (hby.mono HB.out.size))
    have ky := Lib.hid (Lok.new Vx 23 #[.int .i64 d, .int .i64 e, .int .i64 f])
    clear hby
    generalize Vx.alloc (.cells #[.int .i64 d, .int .i64 e, .int .i64 f] 23) = Vy at *
    rw [zx] at ky zy
    have hbz := below_new1 Vy (.cells #[.int .i64 0, .int .i64 0, .int .i64 0] 23)
    replace kx := Lib.hid (kx.out.keep hbz)
    replace ky := Lib.hid (ky.out.keep hbz)
    have zz : (Vy.alloc (.cells #[.int .i64 0, .int .i64 0, .int .i64 0] 23)).heap.size = Vy.heap.size + 1 := by simp
    replace HB := Lib.hid (HB.out.trans (hbz.mono HB.out.size))
    have kz := Lib.hid (Lok.new Vy 23 #[.int .i64 0, .int .i64 0, .int .i64 0])
    clear hbz
    generalize Vy.alloc (.cells #[.int .i64 0, .int .i64 0, .int .i64 0] 23) = Vz at *
    rw [zy] at kz
    clear zx zy zz
    have x0 := kx.out.cell (i := 0) rfl
    have x1 := kx.out.cell (i := 1) rfl
    have x2 := kx.out.cell (i := 2) rfl
    have y0 := ky.out.cell (i := 0) rfl
    have y1 := ky.out.cell (i := 1) rfl
    have y2 := ky.out.cell (i := 2) rfl
    go_wp2_with fail
    clear x0 x1 x2 y0 y1 y2
    have hbr := below_new1 Vz (.cells #[.int .i64 a, .int .i64 b, .int .i64 c, .int .i64 d, .int .i64 e, .int .i64 f] 23)
    replace kz := Lib.hid (kz.out.keep hbr)
    have zr : (Vz.alloc (.cells #[.int .i64 a, .int .i64 b, .int .i64 c, .int .i64 d, .int .i64 e, .int .i64 f] 23)).heap.size = Vz.heap.size + 1 := by simp
    replace HB := Lib.hid (HB.out.trans (hbr.mono HB.out.size))
    have kr := Lib.hid (Lok.new Vz 23 #[.int .i64 a, .int .i64 b, .int .i64 c, .int .i64 d, .int .i64 e, .int .i64 f])
    clear hbr
    generalize Vz.alloc (.cells #[.int .i64 a, .int .i64 b, .int .i64 c, .int .i64 d, .int .i64 e, .int .i64 f] 23) = Vr at *
    clear zr
    generalize Vz.heap.size = gr at *
    (((with_reducible refine (I.out _ _ _ kr.out).mono ?_); rintro e w1 ⟨rfl, hb1⟩); replace HB := Lib.hid (HB.out.trans (hb1.mono HB.out.size)); replace kz := Lib.hid (kz.out.keep hb1); clear hb1)
    have z0 := kz.out.cell (i := 0) rfl
    have z1 := kz.out.cell (i := 1) rfl
    have z2 := kz.out.cell (i := 2) rfl
    have f0 := kz.out.frozen 0
    have f1 := kz.out.frozen 1
    have f2 := kz.out.frozen 2
    go_wp2_with fail
    exact bodyPost_ret (v := .agg #[.int .i64 0, .int .i64 0, .int .i64 0]) (by simp [results, Try.results47, go_sem, z0, z1, z2]) rfl ⟨rfl, ((HB.out.setCell (by simp <;> omega) _).setCell (by simp <;> omega) _).setCell (by simp <;> omega) _⟩
  | true =>
    have I := Lib.hid (fun g T W h => is3_b a b c d e f true ht g T W h)
    rw [show sF true a d = a - d from rfl, show sF true b e = b - e from rfl, show sF true c f = c - f from rfl]
    rw [Bool.and_eq_true, n3_iff, n3_iff] at ht
    have e1 := sub_wrap ht.1.1 ht.2.1
    have e2 := sub_wrap ht.1.2.1 ht.2.2.1
    have e3 := sub_wrap ht.1.2.2 ht.2.2.2
    clear ht
    go_enter Try.func47, Try.ntmps47
    go_upto_region 1 with fail
    have hbx := below_new1 w (.cells #[.int .i64 a, .int .i64 b, .int .i64 c] 23)
    have zx : (w.alloc (.cells #[.int .i64 a, .int .i64 b, .int .i64 c] 23)).heap.size = w.heap.size + 1 := by simp
    have HB := Lib.hid hbx
    have kx := Lib.hid (Lok.new w 23 #[.int .i64 a, .int .i64 b, .int .i64 c])
    clear hbx
    generalize w.alloc (.cells #[.int .i64 a, .int .i64 b, .int .i64 c] 23) = Vx at *
    have hby := below_new1 Vx (.cells #[.int .i64 d, .int .i64 e, .int .i64 f] 23)
    replace kx := Lib.hid (kx.out.keep hby)
    have zy : (Vx.alloc (.cells #[.int .i64 d, .int .i64 e, .int .i64 f] 23)).heap.size = Vx.heap.size + 1 := by simp
    replace HB := Lib.hid (HB.out.trans (hby.mono HB.out.size))
    have ky := Lib.hid (Lok.new Vx 23 #[.int .i64 d, .int .i64 e, .int .i64 f])
    clear hby
    generalize Vx.alloc (.cells #[.int .i64 d, .int .i64 e, .int .i64 f] 23) = Vy at *
    rw [zx] at ky zy
    have hbz := below_new1 Vy (.cells #[.int .i64 0, .int .i64 0, .int .i64 0] 23)
    replace kx := Lib.hid (kx.out.keep hbz)
    replace ky := Lib.hid (ky.out.keep hbz)
    have zz : (Vy.alloc (.cells #[.int .i64 0, .int .i64 0, .int .i64 0] 23)).heap.size = Vy.heap.size + 1 := by simp
    replace HB := Lib.hid (HB.out.trans (hbz.mono HB.out.size))
    have kz := Lib.hid (Lok.new Vy 23 #[.int .i64 0, .int .i64 0, .int .i64 0])
    clear hbz
    generalize Vy.alloc (.cells #[.int .i64 0, .int .i64 0, .int .i64 0] 23) = Vz at *
    rw [zy] at kz
    clear zx zy zz
    have x0 := kx.out.cell (i := 0) rfl
    have x1 := kx.out.cell (i := 1) rfl
    have x2 := kx.out.cell (i := 2) rfl
    have y0 := ky.out.cell (i := 0) rfl
    have y1 := ky.out.cell (i := 1) rfl
    have y2 := ky.out.cell (i := 2) rfl
    go_wp2_with fail
    clear x0 x1 x2 y0 y1 y2
    have hbr := below_new1 Vz (.cells #[.int .i64 a, .int .i64 b, .int .i64 c, .int .i64 d, .int .i64 e, .int .i64 f] 23)
    replace kx := Lib.hid (kx.out.keep hbr)
    replace ky := Lib.hid (ky.out.keep hbr)
    replace kz := Lib.hid (kz.out.keep hbr)
    have zr : (Vz.alloc (.cells #[.int .i64 a, .int .i64 b, .int .i64 c, .int .i64 d, .int .i64 e, .int .i64 f] 23)).heap.size = Vz.heap.size + 1 := by simp
    replace HB := Lib.hid (HB.out.trans (hbr.mono HB.out.size))
    have kr := Lib.hid (Lok.new Vz 23 #[.int .i64 a, .int .i64 b, .int .i64 c, .int .i64 d, .int .i64 e, .int .i64 f])
    clear hbr
    generalize Vz.alloc (.cells #[.int .i64 a, .int .i64 b, .int .i64 c, .int .i64 d, .int .i64 e, .int .i64 f] 23) = Vr at *
    clear zr
    generalize Vz.heap.size = gr at *
    (((with_reducible refine (I.out _ _ _ kr.out).mono ?_); rintro e w1 ⟨rfl, hb1⟩); replace HB := Lib.hid (HB.out.trans (hb1.mono HB.out.size)); replace kx := Lib.hid (kx.out.keep hb1); replace ky := Lib.hid (ky.out.keep hb1); replace kz := Lib.hid (kz.out.keep hb1); clear hb1)
    have x0 := kx.out.cell (i := 0) rfl
    have x1 := kx.out.cell (i := 1) rfl
    have x2 := kx.out.cell (i := 2) rfl
    have y0 := ky.out.cell (i := 0) rfl
    have y1 := ky.out.cell (i := 1) rfl
    have y2 := ky.out.cell (i := 2) rfl
    have z0 := kz.out.cell (i := 0) rfl
    have z1 := kz.out.cell (i := 1) rfl
    have z2 := kz.out.cell (i := 2) rfl
    have f0 := kz.out.frozen 0
    have f1 := kz.out.frozen 1
    have f2 := kz.out.frozen 2
    go_wp2_with fail
    exact bodyPost_ret (v := .agg #[.int .i64 (a - d), .int .i64 (b - e), .int .i64 (c - f)]) (by simp [results, Try.results47, go_sem, z0, z1, z2]) rfl ⟨rfl, ((HB.out.setCell (by simp <;> omega) _).setCell (by simp <;> omega) _).setCell (by simp <;> omega) _⟩

/-- A cross product, where both are near. -/
def xF (t : Bool) (a b c d : Int) : Int := if t = true then a * d - b * c else 0
/-- Drop's answers. -/
def axB (k : Int) : Prop := 0 ≤ k ∧ k ≤ 2
instance (k : Int) : Decidable (axB k) := by unfold axB; infer_instance
def dpX (x y z k : Int) : Int := if axB k then dX x y z k.toNat else 0
def dpY (x y z k : Int) : Int := if axB k then dY x y z k.toNat else 0
def dpE (k : Int) : Int := if axB k then 0 else 1
end Go.Proofs.Ytfghjfgdjlkooaa
