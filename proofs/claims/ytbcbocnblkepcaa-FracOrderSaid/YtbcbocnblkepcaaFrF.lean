/-
  The laws FracOrder and FracReduced: their walks.
-/
import Derived.Test.YtbcbocnblkepcaaFrE
namespace Go.Proofs.Ytbcbocnblkepcaa
open Go.RowKit

/-- The answers that three may give together. -/
def Ord3 (x y z : Int) : Prop := (x = -1 ∨ x = 0 ∨ x = 1) ∧ (y = -1 ∨ y = 0 ∨ y = 1) ∧ (z = -1 ∨ z = 0 ∨ z = 1) ∧ (x ≤ 0 → y ≤ 0 → z ≤ 0 ∧ (x < 0 ∨ y < 0 → z < 0) ∧ (x = 0 → y = 0 → z = 0))
theorem ord3 (an ad bn bd cn cd : Int) : Ord3 (cmpF an ad bn bd) (cmpF bn bd cn cd) (cmpF an ad cn cd) := by
  have b1 := cmpF_bd an ad bn bd
  have b2 := cmpF_bd bn bd cn cd
  have b3 := cmpF_bd an ad cn cd
  refine ⟨by omega, by omega, by omega, fun h k => ?_⟩
  obtain ⟨t1, t2⟩ := cmpF_trans an ad bn bd cn cd h k
  refine ⟨t1, t2, fun e f => ?_⟩
  have s1 := cmpF_both an ad bn bd
  have s2 := cmpF_both bn bd cn cd
  have s3 := cmpF_both an ad cn cd
  obtain ⟨t3, _⟩ := cmpF_trans cn cd bn bd an ad (by omega) (by omega)
  omega

set_option maxRecDepth 100000 in
set_option maxHeartbeats 4000000 in
theorem law_forder_at (an ad bn bd cn cd x y z : Int) (w : World)
    (C1 : Hid (∀ W, Calls Try.prog 21 #[.agg #[.int .i64 an, .int .i64 ad], .agg #[.int .i64 bn, .int .i64 bd]] W fun e w' => e = .returned (.int .i64 x) ∧ Below W.heap.size W w'))
    (C2 : Hid (∀ W, Calls Try.prog 21 #[.agg #[.int .i64 bn, .int .i64 bd], .agg #[.int .i64 cn, .int .i64 cd]] W fun e w' => e = .returned (.int .i64 y) ∧ Below W.heap.size W w'))
    (C3 : Hid (∀ W, Calls Try.prog 21 #[.agg #[.int .i64 an, .int .i64 ad], .agg #[.int .i64 cn, .int .i64 cd]] W fun e w' => e = .returned (.int .i64 z) ∧ Below W.heap.size W w'))
    (C4 : Hid (∀ W, Calls Try.prog 21 #[.agg #[.int .i64 bn, .int .i64 bd], .agg #[.int .i64 an, .int .i64 ad]] W fun e w' => e = .returned (.int .i64 (-x)) ∧ Below W.heap.size W w'))
    (C5 : Hid (∀ W, Calls Try.prog 21 #[.agg #[.int .i64 an, .int .i64 ad], .agg #[.int .i64 an, .int .i64 ad]] W fun e w' => e = .returned (.int .i64 0) ∧ Below W.heap.size W w'))
    (h : Ord3 x y z) :
    Calls Try.prog 4 #[.agg #[.int .i64 an, .int .i64 ad], .agg #[.int .i64 bn, .int .i64 bd], .agg #[.int .i64 cn, .int .i64 cd]] w fun e w' => e = .returned (.bool true) ∧ Below w.heap.size w w' := by
  obtain ⟨hx, hy, hz, hh⟩ := h
  rcases hx with rfl | rfl | rfl <;> rcases hy with rfl | rfl | rfl <;> rcases hz with rfl | rfl | rfl
  all_goals first
    | (exfalso; have q := hh (by decide) (by decide); omega)
    | (clear hh
       go_enter Try.func4, Try.ntmps4
       go_upto_region 1 with fail
       have hbx := below_new1 w (.cells #[.int .i64 an, .int .i64 ad] 23)
       have zx : (w.alloc (.cells #[.int .i64 an, .int .i64 ad] 23)).heap.size = w.heap.size + 1 := by simp
       have HB := Lib.hid hbx
       have kx := Lib.hid (Lok.new w 23 #[.int .i64 an, .int .i64 ad])
       clear hbx
       generalize w.alloc (.cells #[.int .i64 an, .int .i64 ad] 23) = Vx at *
       have hby := below_new1 Vx (.cells #[.int .i64 bn, .int .i64 bd] 23)
       replace kx := Lib.hid (kx.out.keep hby)
       have zy : (Vx.alloc (.cells #[.int .i64 bn, .int .i64 bd] 23)).heap.size = Vx.heap.size + 1 := by simp
       replace HB := Lib.hid (HB.out.trans (hby.mono HB.out.size))
       have ky := Lib.hid (Lok.new Vx 23 #[.int .i64 bn, .int .i64 bd])
       clear hby
       generalize Vx.alloc (.cells #[.int .i64 bn, .int .i64 bd] 23) = Vy at *
       rw [zx] at ky zy
       have hbz := below_new1 Vy (.cells #[.int .i64 cn, .int .i64 cd] 23)
       replace kx := Lib.hid (kx.out.keep hbz)
       replace ky := Lib.hid (ky.out.keep hbz)
       have zz : (Vy.alloc (.cells #[.int .i64 cn, .int .i64 cd] 23)).heap.size = Vy.heap.size + 1 := by simp
       replace HB := Lib.hid (HB.out.trans (hbz.mono HB.out.size))
       have kz := Lib.hid (Lok.new Vy 23 #[.int .i64 cn, .int .i64 cd])
       clear hbz
       generalize Vy.alloc (.cells #[.int .i64 cn, .int .i64 cd] 23) = Vz at *
       rw [zy] at kz
       clear zx zy zz
       have x0 := kx.out.cell (i := 0) rfl
       have x1 := kx.out.cell (i := 1) rfl
       have y0 := ky.out.cell (i := 0) rfl
       have y1 := ky.out.cell (i := 1) rfl
       go_wp2_with fail
       clear x0 x1 y0 y1
       (((with_reducible refine (C1.out _).mono ?_); rintro e w1 ⟨rfl, hb1⟩); replace HB := Lib.hid (HB.out.trans (hb1.mono HB.out.size)); replace kx := Lib.hid (kx.out.keep hb1); replace ky := Lib.hid (ky.out.keep hb1); replace kz := Lib.hid (kz.out.keep hb1); clear hb1)
       have x0 := kz.out.cell (i := 0) rfl
       have x1 := kz.out.cell (i := 1) rfl
       have y0 := ky.out.cell (i := 0) rfl
       have y1 := ky.out.cell (i := 1) rfl
       go_wp2_with fail
       clear x0 x1 y0 y1
       (((with_reducible refine (C2.out _).mono ?_); rintro e w2 ⟨rfl, hb2⟩); replace HB := Lib.hid (HB.out.trans (hb2.mono HB.out.size)); replace kx := Lib.hid (kx.out.keep hb2); replace ky := Lib.hid (ky.out.keep hb2); replace kz := Lib.hid (kz.out.keep hb2); clear hb2)
       have x0 := kx.out.cell (i := 0) rfl
       have x1 := kx.out.cell (i := 1) rfl
       have y0 := kz.out.cell (i := 0) rfl
       have y1 := kz.out.cell (i := 1) rfl
       go_wp2_with fail
       clear x0 x1 y0 y1
       (((with_reducible refine (C3.out _).mono ?_); rintro e w3 ⟨rfl, hb3⟩); replace HB := Lib.hid (HB.out.trans (hb3.mono HB.out.size)); replace kx := Lib.hid (kx.out.keep hb3); replace ky := Lib.hid (ky.out.keep hb3); clear hb3)
       have x0 := kx.out.cell (i := 0) rfl
       have x1 := kx.out.cell (i := 1) rfl
       have y0 := ky.out.cell (i := 0) rfl
       have y1 := ky.out.cell (i := 1) rfl
       go_wp2_with fail
       clear x0 x1 y0 y1
       (((with_reducible refine (C4.out _).mono ?_); rintro e w4 ⟨rfl, hb4⟩); replace HB := Lib.hid (HB.out.trans (hb4.mono HB.out.size)); replace kx := Lib.hid (kx.out.keep hb4); clear hb4)
       have x0 := kx.out.cell (i := 0) rfl
       have x1 := kx.out.cell (i := 1) rfl
       go_wp2_with fail
       clear x0 x1
       (((with_reducible refine (C5.out _).mono ?_); rintro e w5 ⟨rfl, hb5⟩); replace HB := Lib.hid (HB.out.trans (hb5.mono HB.out.size)); clear hb5)
       go_wp2_with fail
       (((with_reducible refine (fshared_any _).mono ?_); rintro e w6 ⟨rfl, hb6⟩); replace HB := Lib.hid (HB.out.trans (hb6.mono HB.out.size)); clear hb6)
       go_wp2
       go_ret
       exact ⟨rfl, HB.out⟩)
theorem law_forder (an ad bn bd cn cd : Int) (w : World) :
    Calls Try.prog 4 #[.agg #[.int .i64 an, .int .i64 ad], .agg #[.int .i64 bn, .int .i64 bd], .agg #[.int .i64 cn, .int .i64 cd]] w fun e w' => e = .returned (.bool true) ∧ Below w.heap.size w w' := by
  have C4 := fun W => fcmp_any bn bd an ad W
  have C5 := fun W => fcmp_any an ad an ad W
  have s := cmpF_both an ad bn bd
  rw [show cmpF bn bd an ad = -cmpF an ad bn bd from by omega] at C4
  rw [cmpF_self] at C5
  exact law_forder_at an ad bn bd cn cd _ _ _ w (Lib.hid fun W => fcmp_any an ad bn bd W) (Lib.hid fun W => fcmp_any bn bd cn cd W) (Lib.hid fun W => fcmp_any an ad cn cd W) (Lib.hid C4) (Lib.hid C5) (ord3 an ad bn bd cn cd)
end Go.Proofs.Ytbcbocnblkepcaa
