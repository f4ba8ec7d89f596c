/-
  The law VecDoes: its walk.
-/
import Derived.Test.YtmejipfejdckiaaVcW
import Derived.Test.YtmejipfejdckiaaVcL
namespace Go.Proofs.Ytmejipfejdckiaa
open Go.RowKit

set_option maxRecDepth 100000 in
set_option maxHeartbeats 16000000 in
theorem law_vec_at (a1 a2 a3 b1 b2 b3 j1 j2 o1 o2 k xx ee nn gg u1 u2 u3 ii p1 p2 ll s1 s2 t1 t2 t3 mm : Int) (lt P Q R S : Bool) (w : World)
    (A1 : Hid (∀ W, Calls Try.prog 8 #[.agg #[.int .i64 a1, .int .i64 a2, .int .i64 a3], .agg #[.int .i64 b1, .int .i64 b2, .int .i64 b3]] W fun e w' => e = .returned (.tuple #[.int .i64 xx, .int .i64 ee]) ∧ Below W.heap.size W w'))
    (A2 : Hid (∀ W, Calls Try.prog 10 #[.agg #[.int .i64 j1, .int .i64 j2], .agg #[.int .i64 o1, .int .i64 o2]] W fun e w' => e = .returned (.tuple #[.int .i64 nn, .int .i64 gg]) ∧ Below W.heap.size W w'))
    (A3 : Hid (∀ W, Calls Try.prog 12 #[.agg #[.int .i64 a1, .int .i64 a2, .int .i64 a3], .agg #[.int .i64 b1, .int .i64 b2, .int .i64 b3]] W fun e w' => e = .returned (.tuple #[.agg #[.int .i64 u1, .int .i64 u2, .int .i64 u3], .int .i64 ii]) ∧ Below W.heap.size W w'))
    (A4 : Hid (∀ W, Calls Try.prog 14 #[.agg #[.int .i64 a1, .int .i64 a2, .int .i64 a3], .int .i64 k] W fun e w' => e = .returned (.tuple #[.agg #[.int .i64 p1, .int .i64 p2], .int .i64 ll]) ∧ Below W.heap.size W w'))
    (A5 : Hid (∀ W, Calls Try.prog 16 #[.agg #[.int .i64 j1, .int .i64 j2], .agg #[.int .i64 o1, .int .i64 o2]] W fun e w' => e = .returned (.agg #[.int .i64 s1, .int .i64 s2]) ∧ Below W.heap.size W w'))
    (A6 : Hid (∀ W, Calls Try.prog 18 #[.agg #[.int .i64 a1, .int .i64 a2, .int .i64 a3], .agg #[.int .i64 b1, .int .i64 b2, .int .i64 b3]] W fun e w' => e = .returned (.agg #[.int .i64 t1, .int .i64 t2, .int .i64 t3]) ∧ Below W.heap.size W w'))
    (A7 : Hid (∀ W, Calls Try.prog 20 #[.agg #[.int .i64 a1, .int .i64 a2, .int .i64 a3]] W fun e w' => e = .returned (.int .i64 mm) ∧ Below W.heap.size W w'))
    (A8 : Hid (∀ W, Calls Try.prog 22 #[.agg #[.int .i64 a1, .int .i64 a2, .int .i64 a3], .agg #[.int .i64 b1, .int .i64 b2, .int .i64 b3]] W fun e w' => e = .returned (.bool lt) ∧ Below W.heap.size W w'))
    (B1 : Hid (∀ W, Calls Try.prog 9 #[.agg #[.int .i64 a1, .int .i64 a2, .int .i64 a3], .agg #[.int .i64 b1, .int .i64 b2, .int .i64 b3]] W fun e w' => e = .returned (.tuple #[.int .i64 xx, .int .i64 ee]) ∧ Below W.heap.size W w'))
    (B2 : Hid (∀ W, Calls Try.prog 11 #[.agg #[.int .i64 j1, .int .i64 j2], .agg #[.int .i64 o1, .int .i64 o2]] W fun e w' => e = .returned (.tuple #[.int .i64 nn, .int .i64 gg]) ∧ Below W.heap.size W w'))
    (B3 : Hid (∀ W, Calls Try.prog 13 #[.agg #[.int .i64 a1, .int .i64 a2, .int .i64 a3], .agg #[.int .i64 b1, .int .i64 b2, .int .i64 b3]] W fun e w' => e = .returned (.tuple #[.agg #[.int .i64 u1, .int .i64 u2, .int .i64 u3], .int .i64 ii]) ∧ Below W.heap.size W w'))
    (B4 : Hid (∀ W, Calls Try.prog 15 #[.agg #[.int .i64 a1, .int .i64 a2, .int .i64 a3], .int .i64 k] W fun e w' => e = .returned (.tuple #[.agg #[.int .i64 p1, .int .i64 p2], .int .i64 ll]) ∧ Below W.heap.size W w'))
    (B5 : Hid (∀ W, Calls Try.prog 17 #[.agg #[.int .i64 j1, .int .i64 j2], .agg #[.int .i64 o1, .int .i64 o2]] W fun e w' => e = .returned (.agg #[.int .i64 s1, .int .i64 s2]) ∧ Below W.heap.size W w'))
    (B6 : Hid (∀ W, Calls Try.prog 19 #[.agg #[.int .i64 a1, .int .i64 a2, .int .i64 a3], .agg #[.int .i64 b1, .int .i64 b2, .int .i64 b3]] W fun e w' => e = .returned (.agg #[.int .i64 t1, .int .i64 t2, .int .i64 t3]) ∧ Below W.heap.size W w'))
    (B7 : Hid (∀ W, Calls Try.prog 21 #[.agg #[.int .i64 a1, .int .i64 a2, .int .i64 a3]] W fun e w' => e = .returned (.int .i64 mm) ∧ Below W.heap.size W w'))
    (B8 : Hid (∀ W, Calls Try.prog 23 #[.agg #[.int .i64 a1, .int .i64 a2, .int .i64 a3], .agg #[.int .i64 b1, .int .i64 b2, .int .i64 b3]] W fun e w' => e = .returned (.bool lt) ∧ Below W.heap.size W w'))
    (RP : Hid (∀ W, Calls Try.prog 26 #[.agg #[.int .i64 j1, .int .i64 j2]] W fun e w' => e = .returned (.bool P) ∧ Below W.heap.size W w'))
    (RQ : Hid (∀ W, Calls Try.prog 26 #[.agg #[.int .i64 o1, .int .i64 o2]] W fun e w' => e = .returned (.bool Q) ∧ Below W.heap.size W w'))
    (RR : Hid (∀ W, Calls Try.prog 28 #[.agg #[.int .i64 a1, .int .i64 a2, .int .i64 a3]] W fun e w' => e = .returned (.bool R) ∧ Below W.heap.size W w'))
    (RS : Hid (∀ W, Calls Try.prog 28 #[.agg #[.int .i64 b1, .int .i64 b2, .int .i64 b3]] W fun e w' => e = .returned (.bool S) ∧ Below W.heap.size W w'))
    (V2 : Hid (∀ g T W, Lok W g T #[.int .i64 j1, .int .i64 j2, .int .i64 o1, .int .i64 o2] → Calls Try.prog 25 #[.slice (some ⟨g, 0, none⟩) 2 2] W fun e w' => e = .returned (.bool (P && Q)) ∧ Below W.heap.size W w'))
    (V3 : Hid (∀ g T W, Lok W g T #[.int .i64 a1, .int .i64 a2, .int .i64 a3, .int .i64 b1, .int .i64 b2, .int .i64 b3] → Calls Try.prog 27 #[.slice (some ⟨g, 0, none⟩) 2 2] W fun e w' => e = .returned (.bool (R && S)) ∧ Below W.heap.size W w')) :
    Calls Try.prog 3 #[.agg #[.int .i64 a1, .int .i64 a2, .int .i64 a3], .agg #[.int .i64 b1, .int .i64 b2, .int .i64 b3], .agg #[.int .i64 j1, .int .i64 j2], .agg #[.int .i64 o1, .int .i64 o2], .int .i64 k] w fun e' w' => e' = .returned (.bool true) ∧ Below w.heap.size w w' := by
  go_enter Try.func3, Try.ntmps3
  go_upto_region 1 with fail
  have hbx := below_new1 w (.cells #[.int .i64 a1, .int .i64 a2, .int .i64 a3] 23)
  have zx : (w.alloc (.cells #[.int .i64 a1, .int .i64 a2, .int .i64 a3] 23)).heap.size = w.heap.size + 1 := by simp
  have HB := Lib.hid hbx
  have kx := Lib.hid (Lok.new w 23 #[.int .i64 a1, .int .i64 a2, .int .i64 a3])
  clear hbx
  generalize w.alloc (.cells #[.int .i64 a1, .int .i64 a2, .int .i64 a3] 23) = Vx at *
  have hby := below_new1 Vx (.cells #[.int .i64 b1, .int .i64 b2, .int .i64 b3] 23)
  replace kx := Lib.hid (kx.out.keep hby)
  have zy : (Vx.alloc (.cells #[.int .i64 b1, .int .i64 b2, .int .i64 b3] 23)).heap.size = Vx.heap.size + 1 := by simp
  replace HB := Lib.hid (HB.out.trans (hby.mono HB.out.size))
  have ky := Lib.hid (Lok.new Vx 23 #[.int .i64 b1, .int .i64 b2, .int .i64 b3])
  clear hby
  generalize Vx.alloc (.cells #[.int .i64 b1, .int .i64 b2, .int .i64 b3] 23) = Vy at *
  rw [zx] at ky zy
  have hbz := below_new1 Vy (.cells #[.int .i64 j1, .int .i64 j2] 25)
  replace kx := Lib.hid (kx.out.keep hbz)
  replace ky := Lib.hid (ky.out.keep hbz)
  have zz : (Vy.alloc (.cells #[.int .i64 j1, .int .i64 j2] 25)).heap.size = Vy.heap.size + 1 := by simp
  replace HB := Lib.hid (HB.out.trans (hbz.mono HB.out.size))
  have kz := Lib.hid (Lok.new Vy 25 #[.int .i64 j1, .int .i64 j2])
  clear hbz
  generalize Vy.alloc (.cells #[.int .i64 j1, .int .i64 j2] 25) = Vz at *
  rw [zy] at kz zz
  have hbu := below_new1 Vz (.cells #[.int .i64 o1, .int .i64 o2] 25)
  replace kx := Lib.hid (kx.out.keep hbu)
  replace ky := Lib.hid (ky.out.keep hbu)
  replace kz := Lib.hid (kz.out.keep hbu)
  have zu : (Vz.alloc (.cells #[.int .i64 o1, .int .i64 o2] 25)).heap.size = Vz.heap.size + 1 := by simp
  replace HB := Lib.hid (HB.out.trans (hbu.mono HB.out.size))
  have ku := Lib.hid (Lok.new Vz 25 #[.int .i64 o1, .int .i64 o2])
  clear hbu
  generalize Vz.alloc (.cells #[.int .i64 o1, .int .i64 o2] 25) = Vu at *
  rw [zz] at ku
  clear zx zy zz zu
  have x0 := kx.out.cell (i := 0) rfl
  have x1 := kx.out.cell (i := 1) rfl
  have x2 := kx.out.cell (i := 2) rfl
  have y0 := ky.out.cell (i := 0) rfl
  have y1 := ky.out.cell (i := 1) rfl
  have y2 := ky.out.cell (i := 2) rfl
  go_wp2_with fail
  clear x0 x1 x2 y0 y1 y2
  (((with_reducible refine (A1.out _).mono ?_); rintro e w1 ⟨rfl, hb1⟩); replace HB := Lib.hid (HB.out.trans (hb1.mono HB.out.size)); replace kx := Lib.hid (kx.out.keep hb1); replace ky := Lib.hid (ky.out.keep hb1); replace kz := Lib.hid (kz.out.keep hb1); replace ku := Lib.hid (ku.out.keep hb1); clear hb1)
  have x0 := kx.out.cell (i := 0) rfl
  have x1 := kx.out.cell (i := 1) rfl
  have x2 := kx.out.cell (i := 2) rfl
  have y0 := ky.out.cell (i := 0) rfl
  have y1 := ky.out.cell (i := 1) rfl
  have y2 := ky.out.cell (i := 2) rfl
  go_wp2_with fail
  clear x0 x1 x2 y0 y1 y2
  (((with_reducible refine (B1.out _).mono ?_); rintro e w2 ⟨rfl, hb2⟩); replace HB := Lib.hid (HB.out.trans (hb2.mono HB.out.size)); replace kx := Lib.hid (kx.out.keep hb2); replace ky := Lib.hid (ky.out.keep hb2); replace kz := Lib.hid (kz.out.keep hb2); replace ku := Lib.hid (ku.out.keep hb2); clear hb2)
  have z0 := kz.out.cell (i := 0) rfl
  have z1 := kz.out.cell (i := 1) rfl
  have u0 := ku.out.cell (i := 0) rfl
  have u1 := ku.out.cell (i := 1) rfl
  go_wp2_with fail
  clear z0 z1 u0 u1
  (((with_reducible refine (A2.out _).mono ?_); rintro e w3 ⟨rfl, hb3⟩); replace HB := Lib.hid (HB.out.trans (hb3.mono HB.out.size)); replace kx := Lib.hid (kx.out.keep hb3); replace ky := Lib.hid (ky.out.keep hb3); replace kz := Lib.hid (kz.out.keep hb3); replace ku := Lib.hid (ku.out.keep hb3); clear hb3)
  have z0 := kz.out.cell (i := 0) rfl
  have z1 := kz.out.cell (i := 1) rfl
  have u0 := ku.out.cell (i := 0) rfl
  have u1 := ku.out.cell (i := 1) rfl
  go_wp2_with fail
  clear z0 z1 u0 u1
  (((with_reducible refine (B2.out _).mono ?_); rintro e w4 ⟨rfl, hb4⟩); replace HB := Lib.hid (HB.out.trans (hb4.mono HB.out.size)); replace kx := Lib.hid (kx.out.keep hb4); replace ky := Lib.hid (ky.out.keep hb4); replace kz := Lib.hid (kz.out.keep hb4); replace ku := Lib.hid (ku.out.keep hb4); clear hb4)
  have x0 := kx.out.cell (i := 0) rfl
  have x1 := kx.out.cell (i := 1) rfl
  have x2 := kx.out.cell (i := 2) rfl
  have y0 := ky.out.cell (i := 0) rfl
  have y1 := ky.out.cell (i := 1) rfl
  have y2 := ky.out.cell (i := 2) rfl
  go_wp2_with fail
  clear x0 x1 x2 y0 y1 y2
  ((with_reducible refine (A3.out _).mono ?_); rintro e w5 ⟨rfl, hb5⟩)
  replace HB := Lib.hid (HB.out.trans (hb5.mono HB.out.size))
  replace kx := Lib.hid (kx.out.keep hb5)
  replace ky := Lib.hid (ky.out.keep hb5)
  replace kz := Lib.hid (kz.out.keep hb5)
  replace ku := Lib.hid (ku.out.keep hb5)
  clear hb5
  go_upto_region 6 with fail
  have hb5 := below_new1 w5 (.cells #[.int .i64 u1, .int .i64 u2, .int .i64 u3] 23)
  replace HB := Lib.hid (HB.out.trans (hb5.mono HB.out.size))
  replace kx := Lib.hid (kx.out.keep hb5)
  replace ky := Lib.hid (ky.out.keep hb5)
  replace kz := Lib.hid (kz.out.keep hb5)
  replace ku := Lib.hid (ku.out.keep hb5)
  have k5 := Lib.hid (Lok.new w5 23 #[.int .i64 u1, .int .i64 u2, .int .i64 u3])
  clear hb5
  generalize w5.alloc (.cells #[.int .i64 u1, .int .i64 u2, .int .i64 u3] 23) = V5 at *
  generalize w5.heap.size = g5 at *
  have x0 := kx.out.cell (i := 0) rfl
  have x1 := kx.out.cell (i := 1) rfl
  have x2 := kx.out.cell (i := 2) rfl
  have y0 := ky.out.cell (i := 0) rfl
  have y1 := ky.out.cell (i := 1) rfl
  have y2 := ky.out.cell (i := 2) rfl
  go_wp2_with fail
  clear x0 x1 x2 y0 y1 y2
  ((with_reducible refine (B3.out _).mono ?_); rintro e w6 ⟨rfl, hb6⟩)
  replace HB := Lib.hid (HB.out.trans (hb6.mono HB.out.size))
  replace kx := Lib.hid (kx.out.keep hb6)
  replace ky := Lib.hid (ky.out.keep hb6)
  replace kz := Lib.hid (kz.out.keep hb6)
  replace ku := Lib.hid (ku.out.keep hb6)
  replace k5 := Lib.hid (k5.out.keep hb6)
  clear hb6
  go_upto_region 7 with fail
  have hb6 := below_new1 w6 (.cells #[.int .i64 u1, .int .i64 u2, .int .i64 u3] 23)
  replace HB := Lib.hid (HB.out.trans (hb6.mono HB.out.size))
  replace kx := Lib.hid (kx.out.keep hb6)
  replace ky := Lib.hid (ky.out.keep hb6)
  replace kz := Lib.hid (kz.out.keep hb6)
  replace ku := Lib.hid (ku.out.keep hb6)
  replace k5 := Lib.hid (k5.out.keep hb6)
  have k6 := Lib.hid (Lok.new w6 23 #[.int .i64 u1, .int .i64 u2, .int .i64 u3])
  clear hb6
  generalize w6.alloc (.cells #[.int .i64 u1, .int .i64 u2, .int .i64 u3] 23) = V6 at *
  generalize w6.heap.size = g6 at *
  have x0 := kx.out.cell (i := 0) rfl
  have x1 := kx.out.cell (i := 1) rfl
  have x2 := kx.out.cell (i := 2) rfl
  go_wp2_with fail
  clear x0 x1 x2
  ((with_reducible refine (A4.out _).mono ?_); rintro e w7 ⟨rfl, hb7⟩)
  replace HB := Lib.hid (HB.out.trans (hb7.mono HB.out.size))
  replace kx := Lib.hid (kx.out.keep hb7)
  replace ky := Lib.hid (ky.out.keep hb7)
  replace kz := Lib.hid (kz.out.keep hb7)
  replace ku := Lib.hid (ku.out.keep hb7)
  replace k5 := Lib.hid (k5.out.keep hb7)
  replace k6 := Lib.hid (k6.out.keep hb7)
  clear hb7
  go_upto_region 8 with fail
  have hb7 := below_new1 w7 (.cells #[.int .i64 p1, .int .i64 p2] 25)
  replace HB := Lib.hid (HB.out.trans (hb7.mono HB.out.size))
  replace kx := Lib.hid (kx.out.keep hb7)
  replace ky := Lib.hid (ky.out.keep hb7)
  replace kz := Lib.hid (kz.out.keep hb7)
  replace ku := Lib.hid (ku.out.keep hb7)
  replace k5 := Lib.hid (k5.out.keep hb7)
  replace k6 := Lib.hid (k6.out.keep hb7)
  have k7 := Lib.hid (Lok.new w7 25 #[.int .i64 p1, .int .i64 p2])
  clear hb7
  generalize w7.alloc (.cells #[.int .i64 p1, .int .i64 p2] 25) = V7 at *
  generalize w7.heap.size = g7 at *
  have x0 := kx.out.cell (i := 0) rfl
  have x1 := kx.out.cell (i := 1) rfl
  have x2 := kx.out.cell (i := 2) rfl
  go_wp2_with fail
  clear x0 x1 x2
  ((with_reducible refine (B4.out _).mono ?_); rintro e w8 ⟨rfl, hb8⟩)
  replace HB := Lib.hid (HB.out.trans (hb8.mono HB.out.size))
  replace kx := Lib.hid (kx.out.keep hb8)
  replace ky := Lib.hid (ky.out.keep hb8)
  replace kz := Lib.hid (kz.out.keep hb8)
  replace ku := Lib.hid (ku.out.keep hb8)
  replace k5 := Lib.hid (k5.out.keep hb8)
  replace k6 := Lib.hid (k6.out.keep hb8)
  replace k7 := Lib.hid (k7.out.keep hb8)
  clear hb8
  go_upto_region 9 with fail
  have hb8 := below_new1 w8 (.cells #[.int .i64 p1, .int .i64 p2] 25)
  replace HB := Lib.hid (HB.out.trans (hb8.mono HB.out.size))
  replace kx := Lib.hid (kx.out.keep hb8)
  replace ky := Lib.hid (ky.out.keep hb8)
  replace kz := Lib.hid (kz.out.keep hb8)
  replace ku := Lib.hid (ku.out.keep hb8)
  replace k5 := Lib.hid (k5.out.keep hb8)
  replace k6 := Lib.hid (k6.out.keep hb8)
  replace k7 := Lib.hid (k7.out.keep hb8)
  have k8 := Lib.hid (Lok.new w8 25 #[.int .i64 p1, .int .i64 p2])
  clear hb8
  generalize w8.alloc (.cells #[.int .i64 p1, .int .i64 p2] 25) = V8 at *
  generalize w8.heap.size = g8 at *
  have q0 := k5.out.cell (i := 0) rfl
  have q1 := k5.out.cell (i := 1) rfl
  have q2 := k5.out.cell (i := 2) rfl
  have r0 := k6.out.cell (i := 0) rfl
  have r1 := k6.out.cell (i := 1) rfl
  have r2 := k6.out.cell (i := 2) rfl
  have v0 := k7.out.cell (i := 0) rfl
  have v1 := k7.out.cell (i := 1) rfl
  have w0 := k8.out.cell (i := 0) rfl
  have w1 := k8.out.cell (i := 1) rfl
  go_upto_region 10 with fail
  clear q0 q1 q2 r0 r1 r2 v0 v1 w0 w1
  clear k5 k6 k7 k8 A1 A2 A3 A4 B1 B2 B3 B4
  have ST := Lib.hid (pastV_stays V8)
  have ne : Nonempty (Of (PastV V8)) := ⟨⟨V8, Below.refl _ _⟩⟩
  have ckx0 : ∀ D : Of (PastV V8), _ := fun D => (kx.out.keep (show Below V8.heap.size V8 D.world from D.holds)).cell (i := 0) rfl
  have ckx1 : ∀ D : Of (PastV V8), _ := fun D => (kx.out.keep (show Below V8.heap.size V8 D.world from D.holds)).cell (i := 1) rfl
  have ckx2 : ∀ D : Of (PastV V8), _ := fun D => (kx.out.keep (show Below V8.heap.size V8 D.world from D.holds)).cell (i := 2) rfl
  have cky0 : ∀ D : Of (PastV V8), _ := fun D => (ky.out.keep (show Below V8.heap.size V8 D.world from D.holds)).cell (i := 0) rfl
  have cky1 : ∀ D : Of (PastV V8), _ := fun D => (ky.out.keep (show Below V8.heap.size V8 D.world from D.holds)).cell (i := 1) rfl
  have cky2 : ∀ D : Of (PastV V8), _ := fun D => (ky.out.keep (show Below V8.heap.size V8 D.world from D.holds)).cell (i := 2) rfl
  have ckz0 : ∀ D : Of (PastV V8), _ := fun D => (kz.out.keep (show Below V8.heap.size V8 D.world from D.holds)).cell (i := 0) rfl
  have ckz1 : ∀ D : Of (PastV V8), _ := fun D => (kz.out.keep (show Below V8.heap.size V8 D.world from D.holds)).cell (i := 1) rfl
  have cku0 : ∀ D : Of (PastV V8), _ := fun D => (ku.out.keep (show Below V8.heap.size V8 D.world from D.holds)).cell (i := 0) rfl
  have cku1 : ∀ D : Of (PastV V8), _ := fun D => (ku.out.keep (show Below V8.heap.size V8 D.world from D.holds)).cell (i := 1) rfl
  refine wp_region_class (S := PastV V8) (by kernel_rfl) (by kernel_rfl) (Below.refl _ _).drew ?_
  repeat (go_big_quiet_step (first | (go_at_call 16; with_reducible exact class_call ST.out _ (A5.out _)) | (go_at_call 17; with_reducible exact class_call ST.out _ (B5.out _)) | (go_at_call 18; with_reducible exact class_call ST.out _ (A6.out _)) | (go_at_call 19; with_reducible exact class_call ST.out _ (B6.out _)) | (go_at_call 20; with_reducible exact class_call ST.out _ (A7.out _)) | (go_at_call 21; with_reducible exact class_call ST.out _ (B7.out _)) | (go_at_call 22; with_reducible exact class_call ST.out _ (A8.out _)) | (go_at_call 23; with_reducible exact class_call ST.out _ (B8.out _))))
  refine wpQuiet_nil ?_
  rintro _ ⟨D, rfl⟩
  have hD : Below V8.heap.size V8 D.world := D.holds
  replace HB := Lib.hid (HB.out.trans (hD.mono HB.out.size))
  replace kx := Lib.hid (kx.out.keep hD)
  replace ky := Lib.hid (ky.out.keep hD)
  replace kz := Lib.hid (kz.out.keep hD)
  replace ku := Lib.hid (ku.out.keep hD)
  generalize D.world = v9 at *
  clear ckx0 ckx1 ckx2 cky0 cky1 cky2 ckz0 ckz1 cku0 cku1 ne ST hD A5 A6 A7 A8 B5 B6 B7 B8
  have x0 := kx.out.cell (i := 0) rfl
  have x1 := kx.out.cell (i := 1) rfl
  have x2 := kx.out.cell (i := 2) rfl
  have y0 := ky.out.cell (i := 0) rfl
  have y1 := ky.out.cell (i := 1) rfl
  have y2 := ky.out.cell (i := 2) rfl
  have z0 := kz.out.cell (i := 0) rfl
  have z1 := kz.out.cell (i := 1) rfl
  have u0 := ku.out.cell (i := 0) rfl
  have u1 := ku.out.cell (i := 1) rfl
  clear kx ky kz ku
  go_upto_region 11 with fail
  cases P with
  | false =>
    cases R with
    | false =>
      refine wp_region_rel (by kernel_rfl) [147, 148, 149, 150, 151, 152, 153, 154, 155, 156, 157, 158, 159, 160, 161, 162, 163, 164, 165, 166, 167, 168, 169, 170, 171, 172, 173, 174, 175, 176, 177, 178, 179, 10] ?Fr1 ?hFr1
        (fun L u W => Below v9.heap.size v9 W ∧ (L 0 = true → u 147 = .bool true) ∧ (L 1 = true → u 148 = .bool true) ∧ (L 2 = true → u 149 = .bool true) ∧ (L 3 = true → u 150 = .bool true) ∧ (L 4 = true → u 151 = .bool true) ∧ (L 5 = true → u 152 = .bool true) ∧ (L 6 = true → u 153 = .bool true) ∧ (L 7 = true → u 154 = .bool true) ∧ (L 8 = true → u 155 = .agg #[.int .i64 j1, .int .i64 j2]) ∧ (L 9 = true → u 156 = .agg #[.int .i64 o1, .int .i64 o2]) ∧ (L 10 = true → L 11 = false → RowAt W (u 157) 2 25 #[.int .i64 j1, .int .i64 j2, .int .i64 o1, .int .i64 o2]) ∧ (L 11 = true → u 158 = .bool (false && Q)) ∧ (L 12 = true → u 159 = .agg #[.int .i64 j1, .int .i64 j2]) ∧ (L 13 = true → u 160 = .bool false) ∧ (L 14 = true → u 161 = .bool false) ∧ (L 15 = true → u 162 = undef) ∧ (L 16 = true → u 163 = undef) ∧ (L 17 = true → u 164 = .bool false) ∧ (L 18 = true → u 165 = .bool true) ∧ (L 19 = true → u 166 = .bool true) ∧ (L 20 = true → u 167 = .bool true) ∧ (L 21 = true → u 168 = .agg #[.int .i64 a1, .int .i64 a2, .int .i64 a3]) ∧ (L 22 = true → u 169 = .agg #[.int .i64 b1, .int .i64 b2, .int .i64 b3]) ∧ (L 23 = true → L 24 = false → RowAt W (u 170) 2 23 #[.int .i64 a1, .int .i64 a2, .int .i64 a3, .int .i64 b1, .int .i64 b2, .int .i64 b3]) ∧ (L 24 = true → u 171 = .bool (false && S)) ∧ (L 25 = true → u 172 = .agg #[.int .i64 a1, .int .i64 a2, .int .i64 a3]) ∧ (L 26 = true → u 173 = .bool false) ∧ (L 27 = true → u 174 = .bool false) ∧ (L 28 = true → u 175 = undef) ∧ (L 29 = true → u 176 = undef) ∧ (L 30 = true → u 177 = .bool false) ∧ (L 31 = true → u 178 = .bool true) ∧ (L 32 = true → u 179 = .bool true) ∧ (L 33 = true → u 10 = .bool true)) (by kernel_rfl) (by kernel_rfl) 34 rfl ?h0r1 ?stepr1 ?finr1
      case hFr1 => intro u; simp only [putAll, Act.put, List.setIfInBounds_toArray, List.set]; exact rfl
      case h0r1 => intro L u hL; exact ⟨(Below.refl _ _).drew, (fun h => by simp [hL] at h), (fun h => by simp [hL] at h), (fun h => by simp [hL] at h), (fun h => by simp [hL] at h), (fun h => by simp [hL] at h), (fun h => by simp [hL] at h), (fun h => by simp [hL] at h), (fun h => by simp [hL] at h), (fun h => by simp [hL] at h), (fun h => by simp [hL] at h), (fun h => by simp [hL] at h), (fun h => by simp [hL] at h), (fun h => by simp [hL] at h), (fun h => by simp [hL] at h), (fun h => by simp [hL] at h), (fun h => by simp [hL] at h), (fun h => by simp [hL] at h), (fun h => by simp [hL] at h), (fun h => by simp [hL] at h), (fun h => by simp [hL] at h), (fun h => by simp [hL] at h), (fun h => by simp [hL] at h), (fun h => by simp [hL] at h), (fun h => by simp [hL] at h), (fun h => by simp [hL] at h), (fun h => by simp [hL] at h), (fun h => by simp [hL] at h), (fun h => by simp [hL] at h), (fun h => by simp [hL] at h), (fun h => by simp [hL] at h), (fun h => by simp [hL] at h), (fun h => by simp [hL] at h), (fun h => by simp [hL] at h), (fun h => by simp [hL] at h)⟩
      case stepr1 =>
        refine ops_all (ops_cons ?s0r1 (ops_cons ?s1r1 (ops_cons ?s2r1 (ops_cons ?s3r1 (ops_cons ?s4r1 (ops_cons ?s5r1 (ops_cons ?s6r1 (ops_cons ?s7r1 (ops_cons ?s8r1 (ops_cons ?s9r1 (ops_cons ?s10r1 (ops_cons ?s11r1 (ops_cons ?s12r1 (ops_cons ?s13r1 (ops_cons ?s14r1 (ops_cons ?s15r1 (ops_cons ?s16r1 (ops_cons ?s17r1 (ops_cons ?s18r1 (ops_cons ?s19r1 (ops_cons ?s20r1 (ops_cons ?s21r1 (ops_cons ?s22r1 (ops_cons ?s23r1 (ops_cons ?s24r1 (ops_cons ?s25r1 (ops_cons ?s26r1 (ops_cons ?s27r1 (ops_cons ?s28r1 (ops_cons ?s29r1 (ops_cons ?s30r1 (ops_cons ?s31r1 (ops_cons ?s32r1 (ops_cons ?s33r1 (ops_nil)))))))))))))))))))))))))))))))))))
        case s0r1 =>
          rintro L u W ⟨hB, c0, c1, c2, c3, c4, c5, c6, c7, c8, c9, c10, c11, c12, c13, c14, c15, c16, c17, c18, c19, c20, c21, c22, c23, c24, c25, c26, c27, c28, c29, c30, c31, c32, c33⟩ hf hd K hK
          dsimp only at hK
          clear hd
          go_simp
          go_wp2_with (go_at_call 24; ((with_reducible refine (crossed_any _).mono ?_); rintro e w5 ⟨rfl, hb⟩))
          refine hK _ _ ?_ (fun h => by cases h)
          intro s hs
          cases hs
          exact ⟨hB.trans (hb.mono hB.size), (fun _ => rfl), c1, c2, c3, c4, c5, c6, c7, c8, c9, (fun h k => (c10 h k).keep hb), c11, c12, c13, c14, c15, c16, c17, c18, c19, c20, c21, c22, (fun h k => (c23 h k).keep hb), c24, c25, c26, c27, c28, c29, c30, c31, c32, c33⟩
        case s1r1 =>
          rintro L u W ⟨hB, c0, c1, c2, c3, c4, c5, c6, c7, c8, c9, c10, c11, c12, c13, c14, c15, c16, c17, c18, c19, c20, c21, c22, c23, c24, c25, c26, c27, c28, c29, c30, c31, c32, c33⟩ hf hd K hK
          dsimp only at hK
          have hd0 : L 0 = true := (by first | (refine hd ⟨0, .data⟩ ?_ rfl; simp; done) | (refine hd ⟨0, .guard⟩ ?_ rfl; simp; done) | (refine hd ⟨0, .phase⟩ ?_ rfl; simp; done) | (refine hd ⟨0, .chain⟩ ?_ rfl; simp; done))
          have e0 := c0 hd0
          rw [e0] at hK
          clear hd0
          clear hd
          go_simp
          refine hK _ _ ?_ (fun h => by cases h)
          intro s hs
          cases hs
          exact ⟨hB, c0, (fun _ => rfl), c2, c3, c4, c5, c6, c7, c8, c9, c10, c11, c12, c13, c14, c15, c16, c17, c18, c19, c20, c21, c22, c23, c24, c25, c26, c27, c28, c29, c30, c31, c32, c33⟩
        case s2r1 =>
          rintro L u W ⟨hB, c0, c1, c2, c3, c4, c5, c6, c7, c8, c9, c10, c11, c12, c13, c14, c15, c16, c17, c18, c19, c20, c21, c22, c23, c24, c25, c26, c27, c28, c29, c30, c31, c32, c33⟩ hf hd K hK
          dsimp only at hK
          have hd1 : L 1 = true := (by first | (refine hd ⟨1, .data⟩ ?_ rfl; simp; done) | (refine hd ⟨1, .guard⟩ ?_ rfl; simp; done) | (refine hd ⟨1, .phase⟩ ?_ rfl; simp; done) | (refine hd ⟨1, .chain⟩ ?_ rfl; simp; done))
          have e1 := c1 hd1
          rw [e1] at hK
          clear hd1
          clear hd
          go_simp
          refine hK _ _ ?_ (fun h => by cases h)
          intro s hs
          cases hs
          exact ⟨hB, c0, c1, (fun _ => rfl), c3, c4, c5, c6, c7, c8, c9, c10, c11, c12, c13, c14, c15, c16, c17, c18, c19, c20, c21, c22, c23, c24, c25, c26, c27, c28, c29, c30, c31, c32, c33⟩
        case s3r1 =>
          rintro L u W ⟨hB, c0, c1, c2, c3, c4, c5, c6, c7, c8, c9, c10, c11, c12, c13, c14, c15, c16, c17, c18, c19, c20, c21, c22, c23, c24, c25, c26, c27, c28, c29, c30, c31, c32, c33⟩ hf hd K hK
          dsimp only at hK
          have hd1 : L 1 = true := (by first | (refine hd ⟨1, .data⟩ ?_ rfl; simp; done) | (refine hd ⟨1, .guard⟩ ?_ rfl; simp; done) | (refine hd ⟨1, .phase⟩ ?_ rfl; simp; done) | (refine hd ⟨1, .chain⟩ ?_ rfl; simp; done))
          have hd2 : L 2 = true := (by first | (refine hd ⟨2, .data⟩ ?_ rfl; simp; done) | (refine hd ⟨2, .guard⟩ ?_ rfl; simp; done) | (refine hd ⟨2, .phase⟩ ?_ rfl; simp; done) | (refine hd ⟨2, .chain⟩ ?_ rfl; simp; done))
          have e1 := c1 hd1
          rw [e1] at hK
          have e2 := c2 hd2
          rw [e2] at hK
          clear hd1
          clear hd2
          clear hd
          go_simp
          refine hK _ _ ?_ (fun h => by cases h)
          intro s hs
          cases hs
          exact ⟨hB, c0, c1, c2, (fun _ => rfl), c4, c5, c6, c7, c8, c9, c10, c11, c12, c13, c14, c15, c16, c17, c18, c19, c20, c21, c22, c23, c24, c25, c26, c27, c28, c29, c30, c31, c32, c33⟩
        case s4r1 =>
          rintro L u W ⟨hB, c0, c1, c2, c3, c4, c5, c6, c7, c8, c9, c10, c11, c12, c13, c14, c15, c16, c17, c18, c19, c20, c21, c22, c23, c24, c25, c26, c27, c28, c29, c30, c31, c32, c33⟩ hf hd K hK
          dsimp only at hK
          have hd3 : L 3 = true := (by first | (refine hd ⟨3, .data⟩ ?_ rfl; simp; done) | (refine hd ⟨3, .guard⟩ ?_ rfl; simp; done) | (refine hd ⟨3, .phase⟩ ?_ rfl; simp; done) | (refine hd ⟨3, .chain⟩ ?_ rfl; simp; done))
          have e3 := c3 hd3
          rw [e3] at hK
          clear hd3
          clear hd
          go_simp
          refine hK _ _ ?_ (fun h => by cases h)
          intro s hs
          cases hs
          exact ⟨hB, c0, c1, c2, c3, (fun _ => rfl), c5, c6, c7, c8, c9, c10, c11, c12, c13, c14, c15, c16, c17, c18, c19, c20, c21, c22, c23, c24, c25, c26, c27, c28, c29, c30, c31, c32, c33⟩
        case s5r1 =>
          rintro L u W ⟨hB, c0, c1, c2, c3, c4, c5, c6, c7, c8, c9, c10, c11, c12, c13, c14, c15, c16, c17, c18, c19, c20, c21, c22, c23, c24, c25, c26, c27, c28, c29, c30, c31, c32, c33⟩ hf hd K hK
          dsimp only at hK
          have hd4 : L 4 = true := (by first | (refine hd ⟨4, .data⟩ ?_ rfl; simp; done) | (refine hd ⟨4, .guard⟩ ?_ rfl; simp; done) | (refine hd ⟨4, .phase⟩ ?_ rfl; simp; done) | (refine hd ⟨4, .chain⟩ ?_ rfl; simp; done))
          have e4 := c4 hd4
          rw [e4] at hK
          clear hd4
          clear hd
          go_simp
          refine hK _ _ ?_ (fun h => by cases h)
          intro s hs
          cases hs
          exact ⟨hB, c0, c1, c2, c3, c4, (fun _ => rfl), c6, c7, c8, c9, c10, c11, c12, c13, c14, c15, c16, c17, c18, c19, c20, c21, c22, c23, c24, c25, c26, c27, c28, c29, c30, c31, c32, c33⟩
        case s6r1 =>
          rintro L u W ⟨hB, c0, c1, c2, c3, c4, c5, c6, c7, c8, c9, c10, c11, c12, c13, c14, c15, c16, c17, c18, c19, c20, c21, c22, c23, c24, c25, c26, c27, c28, c29, c30, c31, c32, c33⟩ hf hd K hK
          dsimp only at hK
          have hd4 : L 4 = true := (by first | (refine hd ⟨4, .data⟩ ?_ rfl; simp; done) | (refine hd ⟨4, .guard⟩ ?_ rfl; simp; done) | (refine hd ⟨4, .phase⟩ ?_ rfl; simp; done) | (refine hd ⟨4, .chain⟩ ?_ rfl; simp; done))
          have hd5 : L 5 = true := (by first | (refine hd ⟨5, .data⟩ ?_ rfl; simp; done) | (refine hd ⟨5, .guard⟩ ?_ rfl; simp; done) | (refine hd ⟨5, .phase⟩ ?_ rfl; simp; done) | (refine hd ⟨5, .chain⟩ ?_ rfl; simp; done))
          have e4 := c4 hd4
          rw [e4] at hK
          have e5 := c5 hd5
          rw [e5] at hK
          clear hd4
          clear hd5
          clear hd
          go_simp
          refine hK _ _ ?_ (fun h => by cases h)
          intro s hs
          cases hs
          exact ⟨hB, c0, c1, c2, c3, c4, c5, (fun _ => rfl), c7, c8, c9, c10, c11, c12, c13, c14, c15, c16, c17, c18, c19, c20, c21, c22, c23, c24, c25, c26, c27, c28, c29, c30, c31, c32, c33⟩
        case s7r1 =>
          rintro L u W ⟨hB, c0, c1, c2, c3, c4, c5, c6, c7, c8, c9, c10, c11, c12, c13, c14, c15, c16, c17, c18, c19, c20, c21, c22, c23, c24, c25, c26, c27, c28, c29, c30, c31, c32, c33⟩ hf hd K hK
          dsimp only at hK
          have hd6 : L 6 = true := (by first | (refine hd ⟨6, .data⟩ ?_ rfl; simp; done) | (refine hd ⟨6, .guard⟩ ?_ rfl; simp; done) | (refine hd ⟨6, .phase⟩ ?_ rfl; simp; done) | (refine hd ⟨6, .chain⟩ ?_ rfl; simp; done))
          have e6 := c6 hd6
          rw [e6] at hK
          clear hd6
          clear hd
          go_simp
          refine hK _ _ ?_ (fun h => by cases h)
          intro s hs
          cases hs
          exact ⟨hB, c0, c1, c2, c3, c4, c5, c6, (fun _ => rfl), c8, c9, c10, c11, c12, c13, c14, c15, c16, c17, c18, c19, c20, c21, c22, c23, c24, c25, c26, c27, c28, c29, c30, c31, c32, c33⟩
        case s8r1 =>
          rintro L u W ⟨hB, c0, c1, c2, c3, c4, c5, c6, c7, c8, c9, c10, c11, c12, c13, c14, c15, c16, c17, c18, c19, c20, c21, c22, c23, c24, c25, c26, c27, c28, c29, c30, c31, c32, c33⟩ hf hd K hK
          dsimp only at hK
          have hd7 : L 7 = true := (by first | (refine hd ⟨7, .data⟩ ?_ rfl; simp; done) | (refine hd ⟨7, .guard⟩ ?_ rfl; simp; done) | (refine hd ⟨7, .phase⟩ ?_ rfl; simp; done) | (refine hd ⟨7, .chain⟩ ?_ rfl; simp; done))
          have e7 := c7 hd7
          rw [e7] at hK
          have t0 := keepc hB z0
          have t1 := keepc hB z1
          clear hd7
          clear hd
          go_simp
          refine hK _ _ ?_ (fun h => by cases h)
          intro s hs
          cases hs
          exact ⟨hB, c0, c1, c2, c3, c4, c5, c6, c7, (fun _ => rfl), c9, c10, c11, c12, c13, c14, c15, c16, c17, c18, c19, c20, c21, c22, c23, c24, c25, c26, c27, c28, c29, c30, c31, c32, c33⟩
        case s9r1 =>
          rintro L u W ⟨hB, c0, c1, c2, c3, c4, c5, c6, c7, c8, c9, c10, c11, c12, c13, c14, c15, c16, c17, c18, c19, c20, c21, c22, c23, c24, c25, c26, c27, c28, c29, c30, c31, c32, c33⟩ hf hd K hK
          dsimp only at hK
          have hd7 : L 7 = true := (by first | (refine hd ⟨7, .data⟩ ?_ rfl; simp; done) | (refine hd ⟨7, .guard⟩ ?_ rfl; simp; done) | (refine hd ⟨7, .phase⟩ ?_ rfl; simp; done) | (refine hd ⟨7, .chain⟩ ?_ rfl; simp; done))
          have e7 := c7 hd7
          rw [e7] at hK
          have t0 := keepc hB u0
          have t1 := keepc hB u1
          clear hd7
          clear hd
          go_simp
          refine hK _ _ ?_ (fun h => by cases h)
          intro s hs
          cases hs
          exact ⟨hB, c0, c1, c2, c3, c4, c5, c6, c7, c8, (fun _ => rfl), c10, c11, c12, c13, c14, c15, c16, c17, c18, c19, c20, c21, c22, c23, c24, c25, c26, c27, c28, c29, c30, c31, c32, c33⟩
        case s10r1 =>
          rintro L u W ⟨hB, c0, c1, c2, c3, c4, c5, c6, c7, c8, c9, c10, c11, c12, c13, c14, c15, c16, c17, c18, c19, c20, c21, c22, c23, c24, c25, c26, c27, c28, c29, c30, c31, c32, c33⟩ hf hd K hK
          dsimp only at hK
          have hd7 : L 7 = true := (by first | (refine hd ⟨7, .data⟩ ?_ rfl; simp; done) | (refine hd ⟨7, .guard⟩ ?_ rfl; simp; done) | (refine hd ⟨7, .phase⟩ ?_ rfl; simp; done) | (refine hd ⟨7, .chain⟩ ?_ rfl; simp; done))
          have hd8 : L 8 = true := (by first | (refine hd ⟨8, .data⟩ ?_ rfl; simp; done) | (refine hd ⟨8, .guard⟩ ?_ rfl; simp; done) | (refine hd ⟨8, .phase⟩ ?_ rfl; simp; done) | (refine hd ⟨8, .chain⟩ ?_ rfl; simp; done))
          have hd9 : L 9 = true := (by first | (refine hd ⟨9, .data⟩ ?_ rfl; simp; done) | (refine hd ⟨9, .guard⟩ ?_ rfl; simp; done) | (refine hd ⟨9, .phase⟩ ?_ rfl; simp; done) | (refine hd ⟨9, .chain⟩ ?_ rfl; simp; done))
          have e7 := c7 hd7
          rw [e7] at hK
          have e8 := c8 hd8
          rw [e8] at hK
          have e9 := c9 hd9
          rw [e9] at hK
          clear hd7
          clear hd8
          clear hd9
          clear hd
          go_simp
          have hb : Below W.heap.size W (W.alloc (.cells #[.int .i64 j1, .int .i64 j2, .int .i64 o1, .int .i64 o2] 25)) := (Below.refl _ W).alloc (Nat.le_refl _) _
          refine hK _ _ ?_ (fun h => by cases h)
          intro s hs
          cases hs
          exact ⟨hB.trans (hb.mono hB.size), c0, c1, c2, c3, c4, c5, c6, c7, c8, c9, (fun _ _ => ⟨_, rfl, Lok.new _ _ _⟩), c11, c12, c13, c14, c15, c16, c17, c18, c19, c20, c21, c22, (fun h k => (c23 h k).keep hb), c24, c25, c26, c27, c28, c29, c30, c31, c32, c33⟩
        case s11r1 =>
          rintro L u W ⟨hB, c0, c1, c2, c3, c4, c5, c6, c7, c8, c9, c10, c11, c12, c13, c14, c15, c16, c17, c18, c19, c20, c21, c22, c23, c24, c25, c26, c27, c28, c29, c30, c31, c32, c33⟩ hf hd K hK
          dsimp only at hK
          have hd7 : L 7 = true := (by first | (refine hd ⟨7, .data⟩ ?_ rfl; simp; done) | (refine hd ⟨7, .guard⟩ ?_ rfl; simp; done) | (refine hd ⟨7, .phase⟩ ?_ rfl; simp; done) | (refine hd ⟨7, .chain⟩ ?_ rfl; simp; done))
          have hd10 : L 10 = true := (by first | (refine hd ⟨10, .data⟩ ?_ rfl; simp; done) | (refine hd ⟨10, .guard⟩ ?_ rfl; simp; done) | (refine hd ⟨10, .phase⟩ ?_ rfl; simp; done) | (refine hd ⟨10, .chain⟩ ?_ rfl; simp; done))
          have e7 := c7 hd7
          rw [e7] at hK
          have e10 := c10 hd10 (by first | exact hf | assumption)
          clear hd7
          clear hd10
          obtain ⟨g, eg, hl⟩ := e10; rw [eg] at hK
          clear hd
          go_simp
          go_wp2_with (go_at_call 25; ((with_reducible refine (V2.out g _ _ hl).mono ?_); rintro e w5 ⟨rfl, hb⟩))
          refine hK _ _ ?_ (fun h => by cases h)
          intro s hs
          cases hs
          exact ⟨hB.trans (hb.mono hB.size), c0, c1, c2, c3, c4, c5, c6, c7, c8, c9, (fun _ h => by cases h), (fun _ => rfl), c12, c13, c14, c15, c16, c17, c18, c19, c20, c21, c22, (fun h k => (c23 h k).keep hb), c24, c25, c26, c27, c28, c29, c30, c31, c32, c33⟩
        case s12r1 =>
          rintro L u W ⟨hB, c0, c1, c2, c3, c4, c5, c6, c7, c8, c9, c10, c11, c12, c13, c14, c15, c16, c17, c18, c19, c20, c21, c22, c23, c24, c25, c26, c27, c28, c29, c30, c31, c32, c33⟩ hf hd K hK
          dsimp only at hK
          have hd7 : L 7 = true := (by first | (refine hd ⟨7, .data⟩ ?_ rfl; simp; done) | (refine hd ⟨7, .guard⟩ ?_ rfl; simp; done) | (refine hd ⟨7, .phase⟩ ?_ rfl; simp; done) | (refine hd ⟨7, .chain⟩ ?_ rfl; simp; done))
          have e7 := c7 hd7
          rw [e7] at hK
          have t0 := keepc hB z0
          have t1 := keepc hB z1
          clear hd7
          clear hd
          go_simp
          refine hK _ _ ?_ (fun h => by cases h)
          intro s hs
          cases hs
          exact ⟨hB, c0, c1, c2, c3, c4, c5, c6, c7, c8, c9, c10, c11, (fun _ => rfl), c13, c14, c15, c16, c17, c18, c19, c20, c21, c22, c23, c24, c25, c26, c27, c28, c29, c30, c31, c32, c33⟩
        case s13r1 =>
          rintro L u W ⟨hB, c0, c1, c2, c3, c4, c5, c6, c7, c8, c9, c10, c11, c12, c13, c14, c15, c16, c17, c18, c19, c20, c21, c22, c23, c24, c25, c26, c27, c28, c29, c30, c31, c32, c33⟩ hf hd K hK
          dsimp only at hK
          have hd7 : L 7 = true := (by first | (refine hd ⟨7, .data⟩ ?_ rfl; simp; done) | (refine hd ⟨7, .guard⟩ ?_ rfl; simp; done) | (refine hd ⟨7, .phase⟩ ?_ rfl; simp; done) | (refine hd ⟨7, .chain⟩ ?_ rfl; simp; done))
          have hd12 : L 12 = true := (by first | (refine hd ⟨12, .data⟩ ?_ rfl; simp; done) | (refine hd ⟨12, .guard⟩ ?_ rfl; simp; done) | (refine hd ⟨12, .phase⟩ ?_ rfl; simp; done) | (refine hd ⟨12, .chain⟩ ?_ rfl; simp; done))
          have e7 := c7 hd7
          rw [e7] at hK
          have e12 := c12 hd12
          rw [e12] at hK
          clear hd7
          clear hd12
          clear hd
          go_simp
          go_wp2_with (go_at_call 26; ((with_reducible refine (RP.out _).mono ?_); rintro e w5 ⟨rfl, hb⟩))
          refine hK _ _ ?_ (fun h => by cases h)
          intro s hs
          cases hs
          exact ⟨hB.trans (hb.mono hB.size), c0, c1, c2, c3, c4, c5, c6, c7, c8, c9, (fun h k => (c10 h k).keep hb), c11, c12, (fun _ => rfl), c14, c15, c16, c17, c18, c19, c20, c21, c22, (fun h k => (c23 h k).keep hb), c24, c25, c26, c27, c28, c29, c30, c31, c32, c33⟩
        case s14r1 =>
          rintro L u W ⟨hB, c0, c1, c2, c3, c4, c5, c6, c7, c8, c9, c10, c11, c12, c13, c14, c15, c16, c17, c18, c19, c20, c21, c22, c23, c24, c25, c26, c27, c28, c29, c30, c31, c32, c33⟩ hf hd K hK
          dsimp only at hK
          have hd7 : L 7 = true := (by first | (refine hd ⟨7, .data⟩ ?_ rfl; simp; done) | (refine hd ⟨7, .guard⟩ ?_ rfl; simp; done) | (refine hd ⟨7, .phase⟩ ?_ rfl; simp; done) | (refine hd ⟨7, .chain⟩ ?_ rfl; simp; done))
          have hd13 : L 13 = true := (by first | (refine hd ⟨13, .data⟩ ?_ rfl; simp; done) | (refine hd ⟨13, .guard⟩ ?_ rfl; simp; done) | (refine hd ⟨13, .phase⟩ ?_ rfl; simp; done) | (refine hd ⟨13, .chain⟩ ?_ rfl; simp; done))
          have e7 := c7 hd7
          rw [e7] at hK
          have e13 := c13 hd13
          rw [e13] at hK
          clear hd7
          clear hd13
          clear hd
          go_simp
          refine hK _ _ ?_ (fun h => by cases h)
          intro s hs
          cases hs
          exact ⟨hB, c0, c1, c2, c3, c4, c5, c6, c7, c8, c9, c10, c11, c12, c13, (fun _ => rfl), c15, c16, c17, c18, c19, c20, c21, c22, c23, c24, c25, c26, c27, c28, c29, c30, c31, c32, c33⟩
        case s15r1 =>
          rintro L u W ⟨hB, c0, c1, c2, c3, c4, c5, c6, c7, c8, c9, c10, c11, c12, c13, c14, c15, c16, c17, c18, c19, c20, c21, c22, c23, c24, c25, c26, c27, c28, c29, c30, c31, c32, c33⟩ hf hd K hK
          dsimp only at hK
          have hd14 : L 14 = true := (by first | (refine hd ⟨14, .data⟩ ?_ rfl; simp; done) | (refine hd ⟨14, .guard⟩ ?_ rfl; simp; done) | (refine hd ⟨14, .phase⟩ ?_ rfl; simp; done) | (refine hd ⟨14, .chain⟩ ?_ rfl; simp; done))
          have e14 := c14 hd14
          rw [e14] at hK
          clear hd14
          clear hd
          go_simp
          refine hK _ _ ?_ (fun h => by cases h)
          intro s hs
          cases hs
          exact ⟨hB, c0, c1, c2, c3, c4, c5, c6, c7, c8, c9, c10, c11, c12, c13, c14, (fun _ => rfl), c16, c17, c18, c19, c20, c21, c22, c23, c24, c25, c26, c27, c28, c29, c30, c31, c32, c33⟩
        case s16r1 =>
          rintro L u W ⟨hB, c0, c1, c2, c3, c4, c5, c6, c7, c8, c9, c10, c11, c12, c13, c14, c15, c16, c17, c18, c19, c20, c21, c22, c23, c24, c25, c26, c27, c28, c29, c30, c31, c32, c33⟩ hf hd K hK
          dsimp only at hK
          have hd14 : L 14 = true := (by first | (refine hd ⟨14, .data⟩ ?_ rfl; simp; done) | (refine hd ⟨14, .guard⟩ ?_ rfl; simp; done) | (refine hd ⟨14, .phase⟩ ?_ rfl; simp; done) | (refine hd ⟨14, .chain⟩ ?_ rfl; simp; done))
          have e14 := c14 hd14
          rw [e14] at hK
          clear hd14
          clear hd
          go_simp
          refine hK _ _ ?_ (fun h => by cases h)
          intro s hs
          cases hs
          exact ⟨hB, c0, c1, c2, c3, c4, c5, c6, c7, c8, c9, c10, c11, c12, c13, c14, c15, (fun _ => rfl), c17, c18, c19, c20, c21, c22, c23, c24, c25, c26, c27, c28, c29, c30, c31, c32, c33⟩
        case s17r1 =>
          rintro L u W ⟨hB, c0, c1, c2, c3, c4, c5, c6, c7, c8, c9, c10, c11, c12, c13, c14, c15, c16, c17, c18, c19, c20, c21, c22, c23, c24, c25, c26, c27, c28, c29, c30, c31, c32, c33⟩ hf hd K hK
          dsimp only at hK
          have hd7 : L 7 = true := (by first | (refine hd ⟨7, .data⟩ ?_ rfl; simp; done) | (refine hd ⟨7, .guard⟩ ?_ rfl; simp; done) | (refine hd ⟨7, .phase⟩ ?_ rfl; simp; done) | (refine hd ⟨7, .chain⟩ ?_ rfl; simp; done))
          have hd14 : L 14 = true := (by first | (refine hd ⟨14, .data⟩ ?_ rfl; simp; done) | (refine hd ⟨14, .guard⟩ ?_ rfl; simp; done) | (refine hd ⟨14, .phase⟩ ?_ rfl; simp; done) | (refine hd ⟨14, .chain⟩ ?_ rfl; simp; done))
          have hd16 : L 16 = true := (by first | (refine hd ⟨16, .data⟩ ?_ rfl; simp; done) | (refine hd ⟨16, .guard⟩ ?_ rfl; simp; done) | (refine hd ⟨16, .phase⟩ ?_ rfl; simp; done) | (refine hd ⟨16, .chain⟩ ?_ rfl; simp; done))
          have e7 := c7 hd7
          rw [e7] at hK
          have e14 := c14 hd14
          rw [e14] at hK
          have e16 := c16 hd16
          rw [e16] at hK
          clear hd7
          clear hd14
          clear hd16
          clear hd
          go_simp
          refine hK _ _ ?_ (fun h => by cases h)
          intro s hs
          cases hs
          exact ⟨hB, c0, c1, c2, c3, c4, c5, c6, c7, c8, c9, c10, c11, c12, c13, c14, c15, c16, (fun _ => rfl), c18, c19, c20, c21, c22, c23, c24, c25, c26, c27, c28, c29, c30, c31, c32, c33⟩
        case s18r1 =>
          rintro L u W ⟨hB, c0, c1, c2, c3, c4, c5, c6, c7, c8, c9, c10, c11, c12, c13, c14, c15, c16, c17, c18, c19, c20, c21, c22, c23, c24, c25, c26, c27, c28, c29, c30, c31, c32, c33⟩ hf hd K hK
          dsimp only at hK
          have hd7 : L 7 = true := (by first | (refine hd ⟨7, .data⟩ ?_ rfl; simp; done) | (refine hd ⟨7, .guard⟩ ?_ rfl; simp; done) | (refine hd ⟨7, .phase⟩ ?_ rfl; simp; done) | (refine hd ⟨7, .chain⟩ ?_ rfl; simp; done))
          have hd11 : L 11 = true := (by first | (refine hd ⟨11, .data⟩ ?_ rfl; simp; done) | (refine hd ⟨11, .guard⟩ ?_ rfl; simp; done) | (refine hd ⟨11, .phase⟩ ?_ rfl; simp; done) | (refine hd ⟨11, .chain⟩ ?_ rfl; simp; done))
          have hd17 : L 17 = true := (by first | (refine hd ⟨17, .data⟩ ?_ rfl; simp; done) | (refine hd ⟨17, .guard⟩ ?_ rfl; simp; done) | (refine hd ⟨17, .phase⟩ ?_ rfl; simp; done) | (refine hd ⟨17, .chain⟩ ?_ rfl; simp; done))
          have e7 := c7 hd7
          rw [e7] at hK
          have e11 := c11 hd11
          rw [e11] at hK
          have e17 := c17 hd17
          rw [e17] at hK
          clear hd7
          clear hd11
          clear hd17
          clear hd
          go_simp
          refine hK _ _ ?_ (fun h => by cases h)
          intro s hs
          cases hs
          exact ⟨hB, c0, c1, c2, c3, c4, c5, c6, c7, c8, c9, c10, c11, c12, c13, c14, c15, c16, c17, (fun _ => rfl), c19, c20, c21, c22, c23, c24, c25, c26, c27, c28, c29, c30, c31, c32, c33⟩
        case s19r1 =>
          rintro L u W ⟨hB, c0, c1, c2, c3, c4, c5, c6, c7, c8, c9, c10, c11, c12, c13, c14, c15, c16, c17, c18, c19, c20, c21, c22, c23, c24, c25, c26, c27, c28, c29, c30, c31, c32, c33⟩ hf hd K hK
          dsimp only at hK
          have hd7 : L 7 = true := (by first | (refine hd ⟨7, .data⟩ ?_ rfl; simp; done) | (refine hd ⟨7, .guard⟩ ?_ rfl; simp; done) | (refine hd ⟨7, .phase⟩ ?_ rfl; simp; done) | (refine hd ⟨7, .chain⟩ ?_ rfl; simp; done))
          have hd18 : L 18 = true := (by first | (refine hd ⟨18, .data⟩ ?_ rfl; simp; done) | (refine hd ⟨18, .guard⟩ ?_ rfl; simp; done) | (refine hd ⟨18, .phase⟩ ?_ rfl; simp; done) | (refine hd ⟨18, .chain⟩ ?_ rfl; simp; done))
          have e7 := c7 hd7
          rw [e7] at hK
          have e18 := c18 hd18
          rw [e18] at hK
          clear hd7
          clear hd18
          clear hd
          go_simp
          refine hK _ _ ?_ (fun h => by cases h)
          intro s hs
          cases hs
          exact ⟨hB, c0, c1, c2, c3, c4, c5, c6, c7, c8, c9, c10, c11, c12, c13, c14, c15, c16, c17, c18, (fun _ => rfl), c20, c21, c22, c23, c24, c25, c26, c27, c28, c29, c30, c31, c32, c33⟩
        case s20r1 =>
          rintro L u W ⟨hB, c0, c1, c2, c3, c4, c5, c6, c7, c8, c9, c10, c11, c12, c13, c14, c15, c16, c17, c18, c19, c20, c21, c22, c23, c24, c25, c26, c27, c28, c29, c30, c31, c32, c33⟩ hf hd K hK
          dsimp only at hK
          have hd19 : L 19 = true := (by first | (refine hd ⟨19, .data⟩ ?_ rfl; simp; done) | (refine hd ⟨19, .guard⟩ ?_ rfl; simp; done) | (refine hd ⟨19, .phase⟩ ?_ rfl; simp; done) | (refine hd ⟨19, .chain⟩ ?_ rfl; simp; done))
          have e19 := c19 hd19
          rw [e19] at hK
          clear hd19
          clear hd
          go_simp
          refine hK _ _ ?_ (fun h => by cases h)
          intro s hs
          cases hs
          exact ⟨hB, c0, c1, c2, c3, c4, c5, c6, c7, c8, c9, c10, c11, c12, c13, c14, c15, c16, c17, c18, c19, (fun _ => rfl), c21, c22, c23, c24, c25, c26, c27, c28, c29, c30, c31, c32, c33⟩
        case s21r1 =>
          rintro L u W ⟨hB, c0, c1, c2, c3, c4, c5, c6, c7, c8, c9, c10, c11, c12, c13, c14, c15, c16, c17, c18, c19, c20, c21, c22, c23, c24, c25, c26, c27, c28, c29, c30, c31, c32, c33⟩ hf hd K hK
          dsimp only at hK
          have hd20 : L 20 = true := (by first | (refine hd ⟨20, .data⟩ ?_ rfl; simp; done) | (refine hd ⟨20, .guard⟩ ?_ rfl; simp; done) | (refine hd ⟨20, .phase⟩ ?_ rfl; simp; done) | (refine hd ⟨20, .chain⟩ ?_ rfl; simp; done))
          have e20 := c20 hd20
          rw [e20] at hK
          have t0 := keepc hB x0
          have t1 := keepc hB x1
          have t2 := keepc hB x2
          clear hd20
          clear hd
          go_simp
          refine hK _ _ ?_ (fun h => by cases h)
          intro s hs
          cases hs
          exact ⟨hB, c0, c1, c2, c3, c4, c5, c6, c7, c8, c9, c10, c11, c12, c13, c14, c15, c16, c17, c18, c19, c20, (fun _ => rfl), c22, c23, c24, c25, c26, c27, c28, c29, c30, c31, c32, c33⟩
        case s22r1 =>
          rintro L u W ⟨hB, c0, c1, c2, c3, c4, c5, c6, c7, c8, c9, c10, c11, c12, c13, c14, c15, c16, c17, c18, c19, c20, c21, c22, c23, c24, c25, c26, c27, c28, c29, c30, c31, c32, c33⟩ hf hd K hK
          dsimp only at hK
          have hd20 : L 20 = true := (by first | (refine hd ⟨20, .data⟩ ?_ rfl; simp; done) | (refine hd ⟨20, .guard⟩ ?_ rfl; simp; done) | (refine hd ⟨20, .phase⟩ ?_ rfl; simp; done) | (refine hd ⟨20, .chain⟩ ?_ rfl; simp; done))
          have e20 := c20 hd20
          rw [e20] at hK
          have t0 := keepc hB y0
          have t1 := keepc hB y1
          have t2 := keepc hB y2
          clear hd20
          clear hd
          go_simp
          refine hK _ _ ?_ (fun h => by cases h)
          intro s hs
          cases hs
          exact ⟨hB, c0, c1, c2, c3, c4, c5, c6, c7, c8, c9, c10, c11, c12, c13, c14, c15, c16, c17, c18, c19, c20, c21, (fun _ => rfl), c23, c24, c25, c26, c27, c28, c29, c30, c31, c32, c33⟩
        case s23r1 =>
          rintro L u W ⟨hB, c0, c1, c2, c3, c4, c5, c6, c7, c8, c9, c10, c11, c12, c13, c14, c15, c16, c17, c18, c19, c20, c21, c22, c23, c24, c25, c26, c27, c28, c29, c30, c31, c32, c33⟩ hf hd K hK
          dsimp only at hK
          have hd20 : L 20 = true := (by first | (refine hd ⟨20, .data⟩ ?_ rfl; simp; done) | (refine hd ⟨20, .guard⟩ ?_ rfl; simp; done) | (refine hd ⟨20, .phase⟩ ?_ rfl; simp; done) | (refine hd ⟨20, .chain⟩ ?_ rfl; simp; done))
          have hd21 : L 21 = true := (by first | (refine hd ⟨21, .data⟩ ?_ rfl; simp; done) | (refine hd ⟨21, .guard⟩ ?_ rfl; simp; done) | (refine hd ⟨21, .phase⟩ ?_ rfl; simp; done) | (refine hd ⟨21, .chain⟩ ?_ rfl; simp; done))
          have hd22 : L 22 = true := (by first | (refine hd ⟨22, .data⟩ ?_ rfl; simp; done) | (refine hd ⟨22, .guard⟩ ?_ rfl; simp; done) | (refine hd ⟨22, .phase⟩ ?_ rfl; simp; done) | (refine hd ⟨22, .chain⟩ ?_ rfl; simp; done))
          have e20 := c20 hd20
          rw [e20] at hK
          have e21 := c21 hd21
          rw [e21] at hK
          have e22 := c22 hd22
          rw [e22] at hK
          clear hd20
          clear hd21
          clear hd22
          clear hd
          go_simp
          have hb : Below W.heap.size W (W.alloc (.cells #[.int .i64 a1, .int .i64 a2, .int .i64 a3, .int .i64 b1, .int .i64 b2, .int .i64 b3] 23)) := (Below.refl _ W).alloc (Nat.le_refl _) _
          refine hK _ _ ?_ (fun h => by cases h)
          intro s hs
          cases hs
          exact ⟨hB.trans (hb.mono hB.size), c0, c1, c2, c3, c4, c5, c6, c7, c8, c9, (fun h k => (c10 h k).keep hb), c11, c12, c13, c14, c15, c16, c17, c18, c19, c20, c21, c22, (fun _ _ => ⟨_, rfl, Lok.new _ _ _⟩), c24, c25, c26, c27, c28, c29, c30, c31, c32, c33⟩
        case s24r1 =>
          rintro L u W ⟨hB, c0, c1, c2, c3, c4, c5, c6, c7, c8, c9, c10, c11, c12, c13, c14, c15, c16, c17, c18, c19, c20, c21, c22, c23, c24, c25, c26, c27, c28, c29, c30, c31, c32, c33⟩ hf hd K hK
          dsimp only at hK
          have hd20 : L 20 = true := (by first | (refine hd ⟨20, .data⟩ ?_ rfl; simp; done) | (refine hd ⟨20, .guard⟩ ?_ rfl; simp; done) | (refine hd ⟨20, .phase⟩ ?_ rfl; simp; done) | (refine hd ⟨20, .chain⟩ ?_ rfl; simp; done))
          have hd23 : L 23 = true := (by first | (refine hd ⟨23, .data⟩ ?_ rfl; simp; done) | (refine hd ⟨23, .guard⟩ ?_ rfl; simp; done) | (refine hd ⟨23, .phase⟩ ?_ rfl; simp; done) | (refine hd ⟨23, .chain⟩ ?_ rfl; simp; done))
          have e20 := c20 hd20
          rw [e20] at hK
          have e23 := c23 hd23 (by first | exact hf | assumption)
          clear hd20
          clear hd23
          obtain ⟨g, eg, hl⟩ := e23; rw [eg] at hK
          clear hd
          go_simp
          go_wp2_with (go_at_call 27; ((with_reducible refine (V3.out g _ _ hl).mono ?_); rintro e w5 ⟨rfl, hb⟩))
          refine hK _ _ ?_ (fun h => by cases h)
          intro s hs
          cases hs
          exact ⟨hB.trans (hb.mono hB.size), c0, c1, c2, c3, c4, c5, c6, c7, c8, c9, (fun h k => (c10 h k).keep hb), c11, c12, c13, c14, c15, c16, c17, c18, c19, c20, c21, c22, (fun _ h => by cases h), (fun _ => rfl), c25, c26, c27, c28, c29, c30, c31, c32, c33⟩
        case s25r1 =>
          rintro L u W ⟨hB, c0, c1, c2, c3, c4, c5, c6, c7, c8, c9, c10, c11, c12, c13, c14, c15, c16, c17, c18, c19, c20, c21, c22, c23, c24, c25, c26, c27, c28, c29, c30, c31, c32, c33⟩ hf hd K hK
          dsimp only at hK
          have hd20 : L 20 = true := (by first | (refine hd ⟨20, .data⟩ ?_ rfl; simp; done) | (refine hd ⟨20, .guard⟩ ?_ rfl; simp; done) | (refine hd ⟨20, .phase⟩ ?_ rfl; simp; done) | (refine hd ⟨20, .chain⟩ ?_ rfl; simp; done))
          have e20 := c20 hd20
          rw [e20] at hK
          have t0 := keepc hB x0
          have t1 := keepc hB x1
          have t2 := keepc hB x2
          clear hd20
          clear hd
          go_simp
          refine hK _ _ ?_ (fun h => by cases h)
          intro s hs
          cases hs
          exact ⟨hB, c0, c1, c2, c3, c4, c5, c6, c7, c8, c9, c10, c11, c12, c13, c14, c15, c16, c17, c18, c19, c20, c21, c22, c23, c24, (fun _ => rfl), c26, c27, c28, c29, c30, c31, c32, c33⟩
        case s26r1 =>
          rintro L u W ⟨hB, c0, c1, c2, c3, c4, c5, c6, c7, c8, c9, c10, c11, c12, c13, c14, c15, c16, c17, c18, c19, c20, c21, c22, c23, c24, c25, c26, c27, c28, c29, c30, c31, c32, c33⟩ hf hd K hK
          dsimp only at hK
          have hd20 : L 20 = true := (by first | (refine hd ⟨20, .data⟩ ?_ rfl; simp; done) | (refine hd ⟨20, .guard⟩ ?_ rfl; simp; done) | (refine hd ⟨20, .phase⟩ ?_ rfl; simp; done) | (refine hd ⟨20, .chain⟩ ?_ rfl; simp; done))
          have hd25 : L 25 = true := (by first | (refine hd ⟨25, .data⟩ ?_ rfl; simp; done) | (refine hd ⟨25, .guard⟩ ?_ rfl; simp; done) | (refine hd ⟨25, .phase⟩ ?_ rfl; simp; done) | (refine hd ⟨25, .chain⟩ ?_ rfl; simp; done))
          have e20 := c20 hd20
          rw [e20] at hK
          have e25 := c25 hd25
          rw [e25] at hK
          clear hd20
          clear hd25
          clear hd
          go_simp
          go_wp2_with (go_at_call 28; ((with_reducible refine (RR.out _).mono ?_); rintro e w5 ⟨rfl, hb⟩))
          refine hK _ _ ?_ (fun h => by cases h)
          intro s hs
          cases hs
          exact ⟨hB.trans (hb.mono hB.size), c0, c1, c2, c3, c4, c5, c6, c7, c8, c9, (fun h k => (c10 h k).keep hb), c11, c12, c13, c14, c15, c16, c17, c18, c19, c20, c21, c22, (fun h k => (c23 h k).keep hb), c24, c25, (fun _ => rfl), c27, c28, c29, c30, c31, c32, c33⟩
        case s27r1 =>
          rintro L u W ⟨hB, c0, c1, c2, c3, c4, c5, c6, c7, c8, c9, c10, c11, c12, c13, c14, c15, c16, c17, c18, c19, c20, c21, c22, c23, c24, c25, c26, c27, c28, c29, c30, c31, c32, c33⟩ hf hd K hK
          dsimp only at hK
          have hd20 : L 20 = true := (by first | (refine hd ⟨20, .data⟩ ?_ rfl; simp; done) | (refine hd ⟨20, .guard⟩ ?_ rfl; simp; done) | (refine hd ⟨20, .phase⟩ ?_ rfl; simp; done) | (refine hd ⟨20, .chain⟩ ?_ rfl; simp; done))
          have hd26 : L 26 = true := (by first | (refine hd ⟨26, .data⟩ ?_ rfl; simp; done) | (refine hd ⟨26, .guard⟩ ?_ rfl; simp; done) | (refine hd ⟨26, .phase⟩ ?_ rfl; simp; done) | (refine hd ⟨26, .chain⟩ ?_ rfl; simp; done))
          have e20 := c20 hd20
          rw [e20] at hK
          have e26 := c26 hd26
          rw [e26] at hK
          clear hd20
          clear hd26
          clear hd
          go_simp
          refine hK _ _ ?_ (fun h => by cases h)
          intro s hs
          cases hs
          exact ⟨hB, c0, c1, c2, c3, c4, c5, c6, c7, c8, c9, c10, c11, c12, c13, c14, c15, c16, c17, c18, c19, c20, c21, c22, c23, c24, c25, c26, (fun _ => rfl), c28, c29, c30, c31, c32, c33⟩
        case s28r1 =>
          rintro L u W ⟨hB, c0, c1, c2, c3, c4, c5, c6, c7, c8, c9, c10, c11, c12, c13, c14, c15, c16, c17, c18, c19, c20, c21, c22, c23, c24, c25, c26, c27, c28, c29, c30, c31, c32, c33⟩ hf hd K hK
          dsimp only at hK
          have hd27 : L 27 = true := (by first | (refine hd ⟨27, .data⟩ ?_ rfl; simp; done) | (refine hd ⟨27, .guard⟩ ?_ rfl; simp; done) | (refine hd ⟨27, .phase⟩ ?_ rfl; simp; done) | (refine hd ⟨27, .chain⟩ ?_ rfl; simp; done))
          have e27 := c27 hd27
          rw [e27] at hK
          clear hd27
          clear hd
          go_simp
          refine hK _ _ ?_ (fun h => by cases h)
          intro s hs
          cases hs
          exact ⟨hB, c0, c1, c2, c3, c4, c5, c6, c7, c8, c9, c10, c11, c12, c13, c14, c15, c16, c17, c18, c19, c20, c21, c22, c23, c24, c25, c26, c27, (fun _ => rfl), c29, c30, c31, c32, c33⟩
        case s29r1 =>
          rintro L u W ⟨hB, c0, c1, c2, c3, c4, c5, c6, c7, c8, c9, c10, c11, c12, c13, c14, c15, c16, c17, c18, c19, c20, c21, c22, c23, c24, c25, c26, c27, c28, c29, c30, c31, c32, c33⟩ hf hd K hK
          dsimp only at hK
          have hd27 : L 27 = true := (by first | (refine hd ⟨27, .data⟩ ?_ rfl; simp; done) | (refine hd ⟨27, .guard⟩ ?_ rfl; simp; done) | (refine hd ⟨27, .phase⟩ ?_ rfl; simp; done) | (refine hd ⟨27, .chain⟩ ?_ rfl; simp; done))
          have e27 := c27 hd27
          rw [e27] at hK
          clear hd27
          clear hd
          go_simp
          refine hK _ _ ?_ (fun h => by cases h)
          intro s hs
          cases hs
          exact ⟨hB, c0, c1, c2, c3, c4, c5, c6, c7, c8, c9, c10, c11, c12, c13, c14, c15, c16, c17, c18, c19, c20, c21, c22, c23, c24, c25, c26, c27, c28, (fun _ => rfl), c30, c31, c32, c33⟩
        case s30r1 =>
          rintro L u W ⟨hB, c0, c1, c2, c3, c4, c5, c6, c7, c8, c9, c10, c11, c12, c13, c14, c15, c16, c17, c18, c19, c20, c21, c22, c23, c24, c25, c26, c27, c28, c29, c30, c31, c32, c33⟩ hf hd K hK
          dsimp only at hK
          have hd20 : L 20 = true := (by first | (refine hd ⟨20, .data⟩ ?_ rfl; simp; done) | (refine hd ⟨20, .guard⟩ ?_ rfl; simp; done) | (refine hd ⟨20, .phase⟩ ?_ rfl; simp; done) | (refine hd ⟨20, .chain⟩ ?_ rfl; simp; done))
          have hd27 : L 27 = true := (by first | (refine hd ⟨27, .data⟩ ?_ rfl; simp; done) | (refine hd ⟨27, .guard⟩ ?_ rfl; simp; done) | (refine hd ⟨27, .phase⟩ ?_ rfl; simp; done) | (refine hd ⟨27, .chain⟩ ?_ rfl; simp; done))
          have hd29 : L 29 = true := (by first | (refine hd ⟨29, .data⟩ ?_ rfl; simp; done) | (refine hd ⟨29, .guard⟩ ?_ rfl; simp; done) | (refine hd ⟨29, .phase⟩ ?_ rfl; simp; done) | (refine hd ⟨29, .chain⟩ ?_ rfl; simp; done))
          have e20 := c20 hd20
          rw [e20] at hK
          have e27 := c27 hd27
          rw [e27] at hK
          have e29 := c29 hd29
          rw [e29] at hK
          clear hd20
          clear hd27
          clear hd29
          clear hd
          go_simp
          refine hK _ _ ?_ (fun h => by cases h)
          intro s hs
          cases hs
          exact ⟨hB, c0, c1, c2, c3, c4, c5, c6, c7, c8, c9, c10, c11, c12, c13, c14, c15, c16, c17, c18, c19, c20, c21, c22, c23, c24, c25, c26, c27, c28, c29, (fun _ => rfl), c31, c32, c33⟩
        case s31r1 =>
          rintro L u W ⟨hB, c0, c1, c2, c3, c4, c5, c6, c7, c8, c9, c10, c11, c12, c13, c14, c15, c16, c17, c18, c19, c20, c21, c22, c23, c24, c25, c26, c27, c28, c29, c30, c31, c32, c33⟩ hf hd K hK
          dsimp only at hK
          have hd20 : L 20 = true := (by first | (refine hd ⟨20, .data⟩ ?_ rfl; simp; done) | (refine hd ⟨20, .guard⟩ ?_ rfl; simp; done) | (refine hd ⟨20, .phase⟩ ?_ rfl; simp; done) | (refine hd ⟨20, .chain⟩ ?_ rfl; simp; done))
          have hd24 : L 24 = true := (by first | (refine hd ⟨24, .data⟩ ?_ rfl; simp; done) | (refine hd ⟨24, .guard⟩ ?_ rfl; simp; done) | (refine hd ⟨24, .phase⟩ ?_ rfl; simp; done) | (refine hd ⟨24, .chain⟩ ?_ rfl; simp; done))
          have hd30 : L 30 = true := (by first | (refine hd ⟨30, .data⟩ ?_ rfl; simp; done) | (refine hd ⟨30, .guard⟩ ?_ rfl; simp; done) | (refine hd ⟨30, .phase⟩ ?_ rfl; simp; done) | (refine hd ⟨30, .chain⟩ ?_ rfl; simp; done))
          have e20 := c20 hd20
          rw [e20] at hK
          have e24 := c24 hd24
          rw [e24] at hK
          have e30 := c30 hd30
          rw [e30] at hK
          clear hd20
          clear hd24
          clear hd30
          clear hd
          go_simp
          refine hK _ _ ?_ (fun h => by cases h)
          intro s hs
          cases hs
          exact ⟨hB, c0, c1, c2, c3, c4, c5, c6, c7, c8, c9, c10, c11, c12, c13, c14, c15, c16, c17, c18, c19, c20, c21, c22, c23, c24, c25, c26, c27, c28, c29, c30, (fun _ => rfl), c32, c33⟩
        case s32r1 =>
          rintro L u W ⟨hB, c0, c1, c2, c3, c4, c5, c6, c7, c8, c9, c10, c11, c12, c13, c14, c15, c16, c17, c18, c19, c20, c21, c22, c23, c24, c25, c26, c27, c28, c29, c30, c31, c32, c33⟩ hf hd K hK
          dsimp only at hK
          have hd20 : L 20 = true := (by first | (refine hd ⟨20, .data⟩ ?_ rfl; simp; done) | (refine hd ⟨20, .guard⟩ ?_ rfl; simp; done) | (refine hd ⟨20, .phase⟩ ?_ rfl; simp; done) | (refine hd ⟨20, .chain⟩ ?_ rfl; simp; done))
          have hd31 : L 31 = true := (by first | (refine hd ⟨31, .data⟩ ?_ rfl; simp; done) | (refine hd ⟨31, .guard⟩ ?_ rfl; simp; done) | (refine hd ⟨31, .phase⟩ ?_ rfl; simp; done) | (refine hd ⟨31, .chain⟩ ?_ rfl; simp; done))
          have e20 := c20 hd20
          rw [e20] at hK
          have e31 := c31 hd31
          rw [e31] at hK
          clear hd20
          clear hd31
          clear hd
          go_simp
          refine hK _ _ ?_ (fun h => by cases h)
          intro s hs
          cases hs
          exact ⟨hB, c0, c1, c2, c3, c4, c5, c6, c7, c8, c9, c10, c11, c12, c13, c14, c15, c16, c17, c18, c19, c20, c21, c22, c23, c24, c25, c26, c27, c28, c29, c30, c31, (fun _ => rfl), c33⟩
        case s33r1 =>
          rintro L u W ⟨hB, c0, c1, c2, c3, c4, c5, c6, c7, c8, c9, c10, c11, c12, c13, c14, c15, c16, c17, c18, c19, c20, c21, c22, c23, c24, c25, c26, c27, c28, c29, c30, c31, c32, c33⟩ hf hd K hK
          dsimp only at hK
          have hd32 : L 32 = true := (by first | (refine hd ⟨32, .data⟩ ?_ rfl; simp; done) | (refine hd ⟨32, .guard⟩ ?_ rfl; simp; done) | (refine hd ⟨32, .phase⟩ ?_ rfl; simp; done) | (refine hd ⟨32, .chain⟩ ?_ rfl; simp; done))
          have e32 := c32 hd32
          rw [e32] at hK
          clear hd32
          clear hd
          go_simp
          refine hK _ _ ?_ (fun h => by cases h)
          intro s hs
          cases hs
          exact ⟨hB, c0, c1, c2, c3, c4, c5, c6, c7, c8, c9, c10, c11, c12, c13, c14, c15, c16, c17, c18, c19, c20, c21, c22, c23, c24, c25, c26, c27, c28, c29, c30, c31, c32, (fun _ => rfl)⟩
      case finr1 =>
        rintro L u W hL ⟨hB, c0, c1, c2, c3, c4, c5, c6, c7, c8, c9, c10, c11, c12, c13, c14, c15, c16, c17, c18, c19, c20, c21, c22, c23, c24, c25, c26, c27, c28, c29, c30, c31, c32, c33⟩
        have e0 := c0 (hL 0 (by decide))
        have e1 := c1 (hL 1 (by decide))
        have e2 := c2 (hL 2 (by decide))
        have e3 := c3 (hL 3 (by decide))
        have e4 := c4 (hL 4 (by decide))
        have e5 := c5 (hL 5 (by decide))
        have e6 := c6 (hL 6 (by decide))
        have e7 := c7 (hL 7 (by decide))
        have e8 := c8 (hL 8 (by decide))
        have e9 := c9 (hL 9 (by decide))
        have e11 := c11 (hL 11 (by decide))
        have e12 := c12 (hL 12 (by decide))
        have e13 := c13 (hL 13 (by decide))
        have e14 := c14 (hL 14 (by decide))
        have e15 := c15 (hL 15 (by decide))
        have e16 := c16 (hL 16 (by decide))
        have e17 := c17 (hL 17 (by decide))
        have e18 := c18 (hL 18 (by decide))
        have e19 := c19 (hL 19 (by decide))
        have e20 := c20 (hL 20 (by decide))
        have e21 := c21 (hL 21 (by decide))
        have e22 := c22 (hL 22 (by decide))
        have e24 := c24 (hL 24 (by decide))
        have e25 := c25 (hL 25 (by decide))
        have e26 := c26 (hL 26 (by decide))
        have e27 := c27 (hL 27 (by decide))
        have e28 := c28 (hL 28 (by decide))
        have e29 := c29 (hL 29 (by decide))
        have e30 := c30 (hL 30 (by decide))
        have e31 := c31 (hL 31 (by decide))
        have e32 := c32 (hL 32 (by decide))
        have e33 := c33 (hL 33 (by decide))
        clear hL c0 c1 c2 c3 c4 c5 c6 c7 c8 c9 c10 c11 c12 c13 c14 c15 c16 c17 c18 c19 c20 c21 c22 c23 c24 c25 c26 c27 c28 c29 c30 c31 c32 c33
        try simp only [e0, e1, e2, e3, e4, e5, e6, e7, e8, e9, e11, e12, e13, e14, e15, e16, e17, e18, e19, e20, e21, e22, e24, e25, e26, e27, e28, e29, e30, e31, e32, e33]
        clear e0 e1 e2 e3 e4 e5 e6 e7 e8 e9 e11 e12 e13 e14 e15 e16 e17 e18 e19 e20 e21 e22 e24 e25 e26 e27 e28 e29 e30 e31 e32 e33
        go_wp2
        go_ret
        exact ⟨rfl, HB.out.trans (hB.mono HB.out.size)⟩
    | true =>
      refine wp_region_rel (by kernel_rfl) [147, 148, 149, 150, 151, 152, 153, 154, 155, 156, 157, 158, 159, 160, 161, 162, 163, 164, 165, 166, 167, 168, 169, 170, 171, 172, 173, 174, 175, 176, 177, 178, 179, 10] ?Fr2 ?hFr2
        (fun L u W => Below v9.heap.size v9 W ∧ (L 0 = true → u 147 = .bool true) ∧ (L 1 = true → u 148 = .bool true) ∧ (L 2 = true → u 149 = .bool true) ∧ (L 3 = true → u 150 = .bool true) ∧ (L 4 = true → u 151 = .bool true) ∧ (L 5 = true → u 152 = .bool true) ∧ (L 6 = true → u 153 = .bool true) ∧ (L 7 = true → u 154 = .bool true) ∧ (L 8 = true → u 155 = .agg #[.int .i64 j1, .int .i64 j2]) ∧ (L 9 = true → u 156 = .agg #[.int .i64 o1, .int .i64 o2]) ∧ (L 10 = true → L 11 = false → RowAt W (u 157) 2 25 #[.int .i64 j1, .int .i64 j2, .int .i64 o1, .int .i64 o2]) ∧ (L 11 = true → u 158 = .bool (false && Q)) ∧ (L 12 = true → u 159 = .agg #[.int .i64 j1, .int .i64 j2]) ∧ (L 13 = true → u 160 = .bool false) ∧ (L 14 = true → u 161 = .bool false) ∧ (L 15 = true → u 162 = undef) ∧ (L 16 = true → u 163 = undef) ∧ (L 17 = true → u 164 = .bool false) ∧ (L 18 = true → u 165 = .bool true) ∧ (L 19 = true → u 166 = .bool true) ∧ (L 20 = true → u 167 = .bool true) ∧ (L 21 = true → u 168 = .agg #[.int .i64 a1, .int .i64 a2, .int .i64 a3]) ∧ (L 22 = true → u 169 = .agg #[.int .i64 b1, .int .i64 b2, .int .i64 b3]) ∧ (L 23 = true → L 24 = false → RowAt W (u 170) 2 23 #[.int .i64 a1, .int .i64 a2, .int .i64 a3, .int .i64 b1, .int .i64 b2, .int .i64 b3]) ∧ (L 24 = true → u 171 = .bool (true && S)) ∧ (L 25 = true → u 172 = .agg #[.int .i64 a1, .int .i64 a2, .int .i64 a3]) ∧ (L 26 = true → u 173 = .bool true) ∧ (L 27 = true → u 174 = .bool true) ∧ (L 28 = true → u 175 = .agg #[.int .i64 b1, .int .i64 b2, .int .i64 b3]) ∧ (L 29 = true → u 176 = .bool S) ∧ (L 30 = true → u 177 = .bool S) ∧ (L 31 = true → u 178 = .bool true) ∧ (L 32 = true → u 179 = .bool true) ∧ (L 33 = true → u 10 = .bool true)) (by kernel_rfl) (by kernel_rfl) 34 rfl ?h0r2 ?stepr2 ?finr2
      case hFr2 => intro u; simp only [putAll, Act.put, List.setIfInBounds_toArray, List.set]; exact rfl
      case h0r2 => intro L u hL; exact ⟨(Below.refl _ _).drew, (fun h => by simp [hL] at h), (fun h => by simp [hL] at h), (fun h => by simp [hL] at h), (fun h => by simp [hL] at h), (fun h => by simp [hL] at h), (fun h => by simp [hL] at h), (fun h => by simp [hL] at h), (fun h => by simp [hL] at h), (fun h => by simp [hL] at h), (fun h => by simp [hL] at h), (fun h => by simp [hL] at h), (fun h => by simp [hL] at h), (fun h => by simp [hL] at h), (fun h => by simp [hL] at h), (fun h => by simp [hL] at h), (fun h => by simp [hL] at h), (fun h => by simp [hL] at h), (fun h => by simp [hL] at h), (fun h => by simp [hL] at h), (fun h => by simp [hL] at h), (fun h => by simp [hL] at h), (fun h => by simp [hL] at h), (fun h => by simp [hL] at h), (fun h => by simp [hL] at h), (fun h => by simp [hL] at h), (fun h => by simp [hL] at h), (fun h => by simp [hL] at h), (fun h => by simp [hL] at h), (fun h => by simp [hL] at h), (fun h => by simp [hL] at h), (fun h => by simp [hL] at h), (fun h => by simp [hL] at h), (fun h => by simp [hL] at h), (fun h => by simp [hL] at h)⟩
      case stepr2 =>
        refine ops_all (ops_cons ?s0r2 (ops_cons ?s1r2 (ops_cons ?s2r2 (ops_cons ?s3r2 (ops_cons ?s4r2 (ops_cons ?s5r2 (ops_cons ?s6r2 (ops_cons ?s7r2 (ops_cons ?s8r2 (ops_cons ?s9r2 (ops_cons ?s10r2 (ops_cons ?s11r2 (ops_cons ?s12r2 (ops_cons ?s13r2 (ops_cons ?s14r2 (ops_cons ?s15r2 (ops_cons ?s16r2 (ops_cons ?s17r2 (ops_cons ?s18r2 (ops_cons ?s19r2 (ops_cons ?s20r2 (ops_cons ?s21r2 (ops_cons ?s22r2 (ops_cons ?s23r2 (ops_cons ?s24r2 (ops_cons ?s25r2 (ops_cons ?s26r2 (ops_cons ?s27r2 (ops_cons ?s28r2 (ops_cons ?s29r2 (ops_cons ?s30r2 (ops_cons ?s31r2 (ops_cons ?s32r2 (ops_cons ?s33r2 (ops_nil)))))))))))))))))))))))))))))))))))
        case s0r2 =>
          rintro L u W ⟨hB, c0, c1, c2, c3, c4, c5, c6, c7, c8, c9, c10, c11, c12, c13, c14, c15, c16, c17, c18, c19, c20, c21, c22, c23, c24, c25, c26, c27, c28, c29, c30, c31, c32, c33⟩ hf hd K hK
          dsimp only at hK
          clear hd
          go_simp
          go_wp2_with (go_at_call 24; ((with_reducible refine (crossed_any _).mono ?_); rintro e w5 ⟨rfl, hb⟩))
          refine hK _ _ ?_ (fun h => by cases h)
          intro s hs
          cases hs
          exact ⟨hB.trans (hb.mono hB.size), (fun _ => rfl), c1, c2, c3, c4, c5, c6, c7, c8, c9, (fun h k => (c10 h k).keep hb), c11, c12, c13, c14, c15, c16, c17, c18, c19, c20, c21, c22, (fun h k => (c23 h k).keep hb), c24, c25, c26, c27, c28, c29, c30, c31, c32, c33⟩
        case s1r2 =>
          rintro L u W ⟨hB, c0, c1, c2, c3, c4, c5, c6, c7, c8, c9, c10, c11, c12, c13, c14, c15, c16, c17, c18, c19, c20, c21, c22, c23, c24, c25, c26, c27, c28, c29, c30, c31, c32, c33⟩ hf hd K hK
          dsimp only at hK
          have hd0 : L 0 = true := (by first | (refine hd ⟨0, .data⟩ ?_ rfl; simp; done) | (refine hd ⟨0, .guard⟩ ?_ rfl; simp; done) | (refine hd ⟨0, .phase⟩ ?_ rfl; simp; done) | (refine hd ⟨0, .chain⟩ ?_ rfl; simp; done))
          have e0 := c0 hd0
          rw [e0] at hK
          clear hd0
          clear hd
          go_simp
          refine hK _ _ ?_ (fun h => by cases h)
          intro s hs
          cases hs
          exact ⟨hB, c0, (fun _ => rfl), c2, c3, c4, c5, c6, c7, c8, c9, c10, c11, c12, c13, c14, c15, c16, c17, c18, c19, c20, c21, c22, c23, c24, c25, c26, c27, c28, c29, c30, c31, c32, c33⟩
        case s2r2 =>
          rintro L u W ⟨hB, c0, c1, c2, c3, c4, c5, c6, c7, c8, c9, c10, c11, c12, c13, c14, c15, c16, c17, c18, c19, c20, c21, c22, c23, c24, c25, c26, c27, c28, c29, c30, c31, c32, c33⟩ hf hd K hK
          dsimp only at hK
          have hd1 : L 1 = true := (by first | (refine hd ⟨1, .data⟩ ?_ rfl; simp; done) | (refine hd ⟨1, .guard⟩ ?_ rfl; simp; done) | (refine hd ⟨1, .phase⟩ ?_ rfl; simp; done) | (refine hd ⟨1, .chain⟩ ?_ rfl; simp; done))
          have e1 := c1 hd1
          rw [e1] at hK
          clear hd1
          clear hd
          go_simp
          refine hK _ _ ?_ (fun h => by cases h)
          intro s hs
          cases hs
          exact ⟨hB, c0, c1, (fun _ => rfl), c3, c4, c5, c6, c7, c8, c9, c10, c11, c12, c13, c14, c15, c16, c17, c18, c19, c20, c21, c22, c23, c24, c25, c26, c27, c28, c29, c30, c31, c32, c33⟩
        case s3r2 =>
          rintro L u W ⟨hB, c0, c1, c2, c3, c4, c5, c6, c7, c8, c9, c10, c11, c12, c13, c14, c15, c16, c17, c18, c19, c20, c21, c22, c23, c24, c25, c26, c27, c28, c29, c30, c31, c32, c33⟩ hf hd K hK
          dsimp only at hK
          have hd1 : L 1 = true := (by first | (refine hd ⟨1, .data⟩ ?_ rfl; simp; done) | (refine hd ⟨1, .guard⟩ ?_ rfl; simp; done) | (refine hd ⟨1, .phase⟩ ?_ rfl; simp; done) | (refine hd ⟨1, .chain⟩ ?_ rfl; simp; done))
          have hd2 : L 2 = true := (by first | (refine hd ⟨2, .data⟩ ?_ rfl; simp; done) | (refine hd ⟨2, .guard⟩ ?_ rfl; simp; done) | (refine hd ⟨2, .phase⟩ ?_ rfl; simp; done) | (refine hd ⟨2, .chain⟩ ?_ rfl; simp; done))
          have e1 := c1 hd1
          rw [e1] at hK
          have e2 := c2 hd2
          rw [e2] at hK
          clear hd1
          clear hd2
          clear hd
          go_simp
          refine hK _ _ ?_ (fun h => by cases h)
          intro s hs
          cases hs
          exact ⟨hB, c0, c1, c2, (fun _ => rfl), c4, c5, c6, c7, c8, c9, c10, c11, c12, c13, c14, c15, c16, c17, c18, c19, c20, c21, c22, c23, c24, c25, c26, c27, c28, c29, c30, c31, c32, c33⟩
        case s4r2 =>
          rintro L u W ⟨hB, c0, c1, c2, c3, c4, c5, c6, c7, c8, c9, c10, c11, c12, c13, c14, c15, c16, c17, c18, c19, c20, c21, c22, c23, c24, c25, c26, c27, c28, c29, c30, c31, c32, c33⟩ hf hd K hK
          dsimp only at hK
          have hd3 : L 3 = true := (by first | (refine hd ⟨3, .data⟩ ?_ rfl; simp; done) | (refine hd ⟨3, .guard⟩ ?_ rfl; simp; done) | (refine hd ⟨3, .phase⟩ ?_ rfl; simp; done) | (refine hd ⟨3, .chain⟩ ?_ rfl; simp; done))
          have e3 := c3 hd3
          rw [e3] at hK
          clear hd3
          clear hd
          go_simp
          refine hK _ _ ?_ (fun h => by cases h)
          intro s hs
          cases hs
          exact ⟨hB, c0, c1, c2, c3, (fun _ => rfl), c5, c6, c7, c8, c9, c10, c11, c12, c13, c14, c15, c16, c17, c18, c19, c20, c21, c22, c23, c24, c25, c26, c27, c28, c29, c30, c31, c32, c33⟩
        case s5r2 =>
          rintro L u W ⟨hB, c0, c1, c2, c3, c4, c5, c6, c7, c8, c9, c10, c11, c12, c13, c14, c15, c16, c17, c18, c19, c20, c21, c22, c23, c24, c25, c26, c27, c28, c29, c30, c31, c32, c33⟩ hf hd K hK
          dsimp only at hK
          have hd4 : L 4 = true := (by first | (refine hd ⟨4, .data⟩ ?_ rfl; simp; done) | (refine hd ⟨4, .guard⟩ ?_ rfl; simp; done) | (refine hd ⟨4, .phase⟩ ?_ rfl; simp; done) | (refine hd ⟨4, .chain⟩ ?_ rfl; simp; done))
          have e4 := c4 hd4
          rw [e4] at hK
          clear hd4
          clear hd
          go_simp
          refine hK _ _ ?_ (fun h => by cases h)
          intro s hs
          cases hs
          exact ⟨hB, c0, c1, c2, c3, c4, (fun _ => rfl), c6, c7, c8, c9, c10, c11, c12, c13, c14, c15, c16, c17, c18, c19, c20, c21, c22, c23, c24, c25, c26, c27, c28, c29, c30, c31, c32, c33⟩
        case s6r2 =>
          rintro L u W ⟨hB, c0, c1, c2, c3, c4, c5, c6, c7, c8, c9, c10, c11, c12, c13, c14, c15, c16, c17, c18, c19, c20, c21, c22, c23, c24, c25, c26, c27, c28, c29, c30, c31, c32, c33⟩ hf hd K hK
          dsimp only at hK
          have hd4 : L 4 = true := (by first | (refine hd ⟨4, .data⟩ ?_ rfl; simp; done) | (refine hd ⟨4, .guard⟩ ?_ rfl; simp; done) | (refine hd ⟨4, .phase⟩ ?_ rfl; simp; done) | (refine hd ⟨4, .chain⟩ ?_ rfl; simp; done))
          have hd5 : L 5 = true := (by first | (refine hd ⟨5, .data⟩ ?_ rfl; simp; done) | (refine hd ⟨5, .guard⟩ ?_ rfl; simp; done) | (refine hd ⟨5, .phase⟩ ?_ rfl; simp; done) | (refine hd ⟨5, .chain⟩ ?_ rfl; simp; done))
          have e4 := c4 hd4
          rw [e4] at hK
          have e5 := c5 hd5
          rw [e5] at hK
          clear hd4
          clear hd5
          clear hd
          go_simp
          refine hK _ _ ?_ (fun h => by cases h)
          intro s hs
          cases hs
          exact ⟨hB, c0, c1, c2, c3, c4, c5, (fun _ => rfl), c7, c8, c9, c10, c11, c12, c13, c14, c15, c16, c17, c18, c19, c20, c21, c22, c23, c24, c25, c26, c27, c28, c29, c30, c31, c32, c33⟩
        case s7r2 =>
          rintro L u W ⟨hB, c0, c1, c2, c3, c4, c5, c6, c7, c8, c9, c10, c11, c12, c13, c14, c15, c16, c17, c18, c19, c20, c21, c22, c23, c24, c25, c26, c27, c28, c29, c30, c31, c32, c33⟩ hf hd K hK
          dsimp only at hK
          have hd6 : L 6 = true := (by first | (refine hd ⟨6, .data⟩ ?_ rfl; simp; done) | (refine hd ⟨6, .guard⟩ ?_ rfl; simp; done) | (refine hd ⟨6, .phase⟩ ?_ rfl; simp; done) | (refine hd ⟨6, .chain⟩ ?_ rfl; simp; done))
          have e6 := c6 hd6
          rw [e6] at hK
          clear hd6
          clear hd
          go_simp
          refine hK _ _ ?_ (fun h => by cases h)
          intro s hs
          cases hs
          exact ⟨hB, c0, c1, c2, c3, c4, c5, c6, (fun _ => rfl), c8, c9, c10, c11, c12, c13, c14, c15, c16, c17, c18, c19, c20, c21, c22, c23, c24, c25, c26, c27, c28, c29, c30, c31, c32, c33⟩
        case s8r2 =>
          rintro L u W ⟨hB, c0, c1, c2, c3, c4, c5, c6, c7, c8, c9, c10, c11, c12, c13, c14, c15, c16, c17, c18, c19, c20, c21, c22, c23, c24, c25, c26, c27, c28, c29, c30, c31, c32, c33⟩ hf hd K hK
          dsimp only at hK
          have hd7 : L 7 = true := (by first | (refine hd ⟨7, .data⟩ ?_ rfl; simp; done) | (refine hd ⟨7, .guard⟩ ?_ rfl; simp; done) | (refine hd ⟨7, .phase⟩ ?_ rfl; simp; done) | (refine hd ⟨7, .chain⟩ ?_ rfl; simp; done))
          have e7 := c7 hd7
          rw [e7] at hK
          have t0 := keepc hB z0
          have t1 := keepc hB z1
          clear hd7
          clear hd
          go_simp
          refine hK _ _ ?_ (fun h => by cases h)
          intro s hs
          cases hs
          exact ⟨hB, c0, c1, c2, c3, c4, c5, c6, c7, (fun _ => rfl), c9, c10, c11, c12, c13, c14, c15, c16, c17, c18, c19, c20, c21, c22, c23, c24, c25, c26, c27, c28, c29, c30, c31, c32, c33⟩
        case s9r2 =>
          rintro L u W ⟨hB, c0, c1, c2, c3, c4, c5, c6, c7, c8, c9, c10, c11, c12, c13, c14, c15, c16, c17, c18, c19, c20, c21, c22, c23, c24, c25, c26, c27, c28, c29, c30, c31, c32, c33⟩ hf hd K hK
          dsimp only at hK
          have hd7 : L 7 = true := (by first | (refine hd ⟨7, .data⟩ ?_ rfl; simp; done) | (refine hd ⟨7, .guard⟩ ?_ rfl; simp; done) | (refine hd ⟨7, .phase⟩ ?_ rfl; simp; done) | (refine hd ⟨7, .chain⟩ ?_ rfl; simp; done))
          have e7 := c7 hd7
          rw [e7] at hK
          have t0 := keepc hB u0
          have t1 := keepc hB u1
          clear hd7
          clear hd
          go_simp
          refine hK _ _ ?_ (fun h => by cases h)
          intro s hs
          cases hs
          exact ⟨hB, c0, c1, c2, c3, c4, c5, c6, c7, c8, (fun _ => rfl), c10, c11, c12, c13, c14, c15, c16, c17, c18, c19, c20, c21, c22, c23, c24, c25, c26, c27, c28, c29, c30, c31, c32, c33⟩
        case s10r2 =>
          rintro L u W ⟨hB, c0, c1, c2, c3, c4, c5, c6, c7, c8, c9, c10, c11, c12, c13, c14, c15, c16, c17, c18, c19, c20, c21, c22, c23, c24, c25, c26, c27, c28, c29, c30, c31, c32, c33⟩ hf hd K hK
          dsimp only at hK
          have hd7 : L 7 = true := (by first | (refine hd ⟨7, .data⟩ ?_ rfl; simp; done) | (refine hd ⟨7, .guard⟩ ?_ rfl; simp; done) | (refine hd ⟨7, .phase⟩ ?_ rfl; simp; done) | (refine hd ⟨7, .chain⟩ ?_ rfl; simp; done))
          have hd8 : L 8 = true := (by first | (refine hd ⟨8, .data⟩ ?_ rfl; simp; done) | (refine hd ⟨8, .guard⟩ ?_ rfl; simp; done) | (refine hd ⟨8, .phase⟩ ?_ rfl; simp; done) | (refine hd ⟨8, .chain⟩ ?_ rfl; simp; done))
          have hd9 : L 9 = true := (by first | (refine hd ⟨9, .data⟩ ?_ rfl; simp; done) | (refine hd ⟨9, .guard⟩ ?_ rfl; simp; done) | (refine hd ⟨9, .phase⟩ ?_ rfl; simp; done) | (refine hd ⟨9, .chain⟩ ?_ rfl; simp; done))
          have e7 := c7 hd7
          rw [e7] at hK
          have e8 := c8 hd8
          rw [e8] at hK
          have e9 := c9 hd9
          rw [e9] at hK
          clear hd7
          clear hd8
          clear hd9
          clear hd
          go_simp
          have hb : Below W.heap.size W (W.alloc (.cells #[.int .i64 j1, .int .i64 j2, .int .i64 o1, .int .i64 o2] 25)) := (Below.refl _ W).alloc (Nat.le_refl _) _
          refine hK _ _ ?_ (fun h => by cases h)
          intro s hs
          cases hs
          exact ⟨hB.trans (hb.mono hB.size), c0, c1, c2, c3, c4, c5, c6, c7, c8, c9, (fun _ _ => ⟨_, rfl, Lok.new _ _ _⟩), c11, c12, c13, c14, c15, c16, c17, c18, c19, c20, c21, c22, (fun h k => (c23 h k).keep hb), c24, c25, c26, c27, c28, c29, c30, c31, c32, c33⟩
        case s11r2 =>
          rintro L u W ⟨hB, c0, c1, c2, c3, c4, c5, c6, c7, c8, c9, c10, c11, c12, c13, c14, c15, c16, c17, c18, c19, c20, c21, c22, c23, c24, c25, c26, c27, c28, c29, c30, c31, c32, c33⟩ hf hd K hK
          dsimp only at hK
          have hd7 : L 7 = true := (by first | (refine hd ⟨7, .data⟩ ?_ rfl; simp; done) | (refine hd ⟨7, .guard⟩ ?_ rfl; simp; done) | (refine hd ⟨7, .phase⟩ ?_ rfl; simp; done) | (refine hd ⟨7, .chain⟩ ?_ rfl; simp; done))
          have hd10 : L 10 = true := (by first | (refine hd ⟨10, .data⟩ ?_ rfl; simp; done) | (refine hd ⟨10, .guard⟩ ?_ rfl; simp; done) | (refine hd ⟨10, .phase⟩ ?_ rfl; simp; done) | (refine hd ⟨10, .chain⟩ ?_ rfl; simp; done))
          have e7 := c7 hd7
          rw [e7] at hK
          have e10 := c10 hd10 (by first | exact hf | assumption)
          clear hd7
          clear hd10
          obtain ⟨g, eg, hl⟩ := e10; rw [eg] at hK
          clear hd
          go_simp
          go_wp2_with (go_at_call 25; ((with_reducible refine (V2.out g _ _ hl).mono ?_); rintro e w5 ⟨rfl, hb⟩))
          refine hK _ _ ?_ (fun h => by cases h)
          intro s hs
          cases hs
          exact ⟨hB.trans (hb.mono hB.size), c0, c1, c2, c3, c4, c5, c6, c7, c8, c9, (fun _ h => by cases h), (fun _ => rfl), c12, c13, c14, c15, c16, c17, c18, c19, c20, c21, c22, (fun h k => (c23 h k).keep hb), c24, c25, c26, c27, c28, c29, c30, c31, c32, c33⟩
        case s12r2 =>
          rintro L u W ⟨hB, c0, c1, c2, c3, c4, c5, c6, c7, c8, c9, c10, c11, c12, c13, c14, c15, c16, c17, c18, c19, c20, c21, c22, c23, c24, c25, c26, c27, c28, c29, c30, c31, c32, c33⟩ hf hd K hK
          dsimp only at hK
          have hd7 : L 7 = true := (by first | (refine hd ⟨7, .data⟩ ?_ rfl; simp; done) | (refine hd ⟨7, .guard⟩ ?_ rfl; simp; done) | (refine hd ⟨7, .phase⟩ ?_ rfl; simp; done) | (refine hd ⟨7, .chain⟩ ?_ rfl; simp; done))
          have e7 := c7 hd7
          rw [e7] at hK
          have t0 := keepc hB z0
          have t1 := keepc hB z1
          clear hd7
          clear hd
          go_simp
          refine hK _ _ ?_ (fun h => by cases h)
          intro s hs
          cases hs
          exact ⟨hB, c0, c1, c2, c3, c4, c5, c6, c7, c8, c9, c10, c11, (fun _ => rfl), c13, c14, c15, c16, c17, c18, c19, c20, c21, c22, c23, c24, c25, c26, c27, c28, c29, c30, c31, c32, c33⟩
        case s13r2 =>
          rintro L u W ⟨hB, c0, c1, c2, c3, c4, c5, c6, c7, c8, c9, c10, c11, c12, c13, c14, c15, c16, c17, c18, c19, c20, c21, c22, c23, c24, c25, c26, c27, c28, c29, c30, c31, c32, c33⟩ hf hd K hK
          dsimp only at hK
          have hd7 : L 7 = true := (by first | (refine hd ⟨7, .data⟩ ?_ rfl; simp; done) | (refine hd ⟨7, .guard⟩ ?_ rfl; simp; done) | (refine hd ⟨7, .phase⟩ ?_ rfl; simp; done) | (refine hd ⟨7, .chain⟩ ?_ rfl; simp; done))
          have hd12 : L 12 = true := (by first | (refine hd ⟨12, .data⟩ ?_ rfl; simp; done) | (refine hd ⟨12, .guard⟩ ?_ rfl; simp; done) | (refine hd ⟨12, .phase⟩ ?_ rfl; simp; done) | (refine hd ⟨12, .chain⟩ ?_ rfl; simp; done))
          have e7 := c7 hd7
          rw [e7] at hK
          have e12 := c12 hd12
          rw [e12] at hK
          clear hd7
          clear hd12
          clear hd
          go_simp
          go_wp2_with (go_at_call 26; ((with_reducible refine (RP.out _).mono ?_); rintro e w5 ⟨rfl, hb⟩))
          refine hK _ _ ?_ (fun h => by cases h)
          intro s hs
          cases hs
          exact ⟨hB.trans (hb.mono hB.size), c0, c1, c2, c3, c4, c5, c6, c7, c8, c9, (fun h k => (c10 h k).keep hb), c11, c12, (fun _ => rfl), c14, c15, c16, c17, c18, c19, c20, c21, c22, (fun h k => (c23 h k).keep hb), c24, c25, c26, c27, c28, c29, c30, c31, c32, c33⟩
        case s14r2 =>
          rintro L u W ⟨hB, c0, c1, c2, c3, c4, c5, c6, c7, c8, c9, c10, c11, c12, c13, c14, c15, c16, c17, c18, c19, c20, c21, c22, c23, c24, c25, c26, c27, c28, c29, c30, c31, c32, c33⟩ hf hd K hK
          dsimp only at hK
          have hd7 : L 7 = true := (by first | (refine hd ⟨7, .data⟩ ?_ rfl; simp; done) | (refine hd ⟨7, .guard⟩ ?_ rfl; simp; done) | (refine hd ⟨7, .phase⟩ ?_ rfl; simp; done) | (refine hd ⟨7, .chain⟩ ?_ rfl; simp; done))
          have hd13 : L 13 = true := (by first | (refine hd ⟨13, .data⟩ ?_ rfl; simp; done) | (refine hd ⟨13, .guard⟩ ?_ rfl; simp; done) | (refine hd ⟨13, .phase⟩ ?_ rfl; simp; done) | (refine hd ⟨13, .chain⟩ ?_ rfl; simp; done))
          have e7 := c7 hd7
          rw [e7] at hK
          have e13 := c13 hd13
          rw [e13] at hK
          clear hd7
          clear hd13
          clear hd
          go_simp
          refine hK _ _ ?_ (fun h => by cases h)
          intro s hs
          cases hs
          exact ⟨hB, c0, c1, c2, c3, c4, c5, c6, c7, c8, c9, c10, c11, c12, c13, (fun _ => rfl), c15, c16, c17, c18, c19, c20, c21, c22, c23, c24, c25, c26, c27, c28, c29, c30, c31, c32, c33⟩
        case s15r2 =>
          rintro L u W ⟨hB, c0, c1, c2, c3, c4, c5, c6, c7, c8, c9, c10, c11, c12, c13, c14, c15, c16, c17, c18, c19, c20, c21, c22, c23, c24, c25, c26, c27, c28, c29, c30, c31, c32, c33⟩ hf hd K hK
          dsimp only at hK
          have hd14 : L 14 = true := (by first | (refine hd ⟨14, .data⟩ ?_ rfl; simp; done) | (refine hd ⟨14, .guard⟩ ?_ rfl; simp; done) | (refine hd ⟨14, .phase⟩ ?_ rfl; simp; done) | (refine hd ⟨14, .chain⟩ ?_ rfl; simp; done))
          have e14 := c14 hd14
          rw [e14] at hK
          clear hd14
          clear hd
          go_simp
          refine hK _ _ ?_ (fun h => by cases h)
          intro s hs
          cases hs
          exact ⟨hB, c0, c1, c2, c3, c4, c5, c6, c7, c8, c9, c10, c11, c12, c13, c14, (fun _ => rfl), c16, c17, c18, c19, c20, c21, c22, c23, c24, c25, c26, c27, c28, c29, c30, c31, c32, c33⟩
        case s16r2 =>
          rintro L u W ⟨hB, c0, c1, c2, c3, c4, c5, c6, c7, c8, c9, c10, c11, c12, c13, c14, c15, c16, c17, c18, c19, c20, c21, c22, c23, c24, c25, c26, c27, c28, c29, c30, c31, c32, c33⟩ hf hd K hK
          dsimp only at hK
          have hd14 : L 14 = true := (by first | (refine hd ⟨14, .data⟩ ?_ rfl; simp; done) | (refine hd ⟨14, .guard⟩ ?_ rfl; simp; done) | (refine hd ⟨14, .phase⟩ ?_ rfl; simp; done) | (refine hd ⟨14, .chain⟩ ?_ rfl; simp; done))
          have e14 := c14 hd14
          rw [e14] at hK
          clear hd14
          clear hd
          go_simp
          refine hK _ _ ?_ (fun h => by cases h)
          intro s hs
          cases hs
          exact ⟨hB, c0, c1, c2, c3, c4, c5, c6, c7, c8, c9, c10, c11, c12, c13, c14, c15, (fun _ => rfl), c17, c18, c19, c20, c21, c22, c23, c24, c25, c26, c27, c28, c29, c30, c31, c32, c33⟩
        case s17r2 =>
          rintro L u W ⟨hB, c0, c1, c2, c3, c4, c5, c6, c7, c8, c9, c10, c11, c12, c13, c14, c15, c16, c17, c18, c19, c20, c21, c22, c23, c24, c25, c26, c27, c28, c29, c30, c31, c32, c33⟩ hf hd K hK
          dsimp only at hK
          have hd7 : L 7 = true := (by first | (refine hd ⟨7, .data⟩ ?_ rfl; simp; done) | (refine hd ⟨7, .guard⟩ ?_ rfl; simp; done) | (refine hd ⟨7, .phase⟩ ?_ rfl; simp; done) | (refine hd ⟨7, .chain⟩ ?_ rfl; simp; done))
          have hd14 : L 14 = true := (by first | (refine hd ⟨14, .data⟩ ?_ rfl; simp; done) | (refine hd ⟨14, .guard⟩ ?_ rfl; simp; done) | (refine hd ⟨14, .phase⟩ ?_ rfl; simp; done) | (refine hd ⟨14, .chain⟩ ?_ rfl; simp; done))
          have hd16 : L 16 = true := (by first | (refine hd ⟨16, .data⟩ ?_ rfl; simp; done) | (refine hd ⟨16, .guard⟩ ?_ rfl; simp; done) | (refine hd ⟨16, .phase⟩ ?_ rfl; simp; done) | (refine hd ⟨16, .chain⟩ ?_ rfl; simp; done))
          have e7 := c7 hd7
          rw [e7] at hK
          have e14 := c14 hd14
          rw [e14] at hK
          have e16 := c16 hd16
          rw [e16] at hK
          clear hd7
          clear hd14
          clear hd16
          clear hd
          go_simp
          refine hK _ _ ?_ (fun h => by cases h)
          intro s hs
          cases hs
          exact ⟨hB, c0, c1, c2, c3, c4, c5, c6, c7, c8, c9, c10, c11, c12, c13, c14, c15, c16, (fun _ => rfl), c18, c19, c20, c21, c22, c23, c24, c25, c26, c27, c28, c29, c30, c31, c32, c33⟩
        case s18r2 =>
          rintro L u W ⟨hB, c0, c1, c2, c3, c4, c5, c6, c7, c8, c9, c10, c11, c12, c13, c14, c15, c16, c17, c18, c19, c20, c21, c22, c23, c24, c25, c26, c27, c28, c29, c30, c31, c32, c33⟩ hf hd K hK
          dsimp only at hK
          have hd7 : L 7 = true := (by first | (refine hd ⟨7, .data⟩ ?_ rfl; simp; done) | (refine hd ⟨7, .guard⟩ ?_ rfl; simp; done) | (refine hd ⟨7, .phase⟩ ?_ rfl; simp; done) | (refine hd ⟨7, .chain⟩ ?_ rfl; simp; done))
          have hd11 : L 11 = true := (by first | (refine hd ⟨11, .data⟩ ?_ rfl; simp; done) | (refine hd ⟨11, .guard⟩ ?_ rfl; simp; done) | (refine hd ⟨11, .phase⟩ ?_ rfl; simp; done) | (refine hd ⟨11, .chain⟩ ?_ rfl; simp; done))
          have hd17 : L 17 = true := (by first | (refine hd ⟨17, .data⟩ ?_ rfl; simp; done) | (refine hd ⟨17, .guard⟩ ?_ rfl; simp; done) | (refine hd ⟨17, .phase⟩ ?_ rfl; simp; done) | (refine hd ⟨17, .chain⟩ ?_ rfl; simp; done))
          have e7 := c7 hd7
          rw [e7] at hK
          have e11 := c11 hd11
          rw [e11] at hK
          have e17 := c17 hd17
          rw [e17] at hK
          clear hd7
          clear hd11
          clear hd17
          clear hd
          go_simp
          refine hK _ _ ?_ (fun h => by cases h)
          intro s hs
          cases hs
          exact ⟨hB, c0, c1, c2, c3, c4, c5, c6, c7, c8, c9, c10, c11, c12, c13, c14, c15, c16, c17, (fun _ => rfl), c19, c20, c21, c22, c23, c24, c25, c26, c27, c28, c29, c30, c31, c32, c33⟩
        case s19r2 =>
          rintro L u W ⟨hB, c0, c1, c2, c3, c4, c5, c6, c7, c8, c9, c10, c11, c12, c13, c14, c15, c16, c17, c18, c19, c20, c21, c22, c23, c24, c25, c26, c27, c28, c29, c30, c31, c32, c33⟩ hf hd K hK
          dsimp only at hK
          have hd7 : L 7 = true := (by first | (refine hd ⟨7, .data⟩ ?_ rfl; simp; done) | (refine hd ⟨7, .guard⟩ ?_ rfl; simp; done) | (refine hd ⟨7, .phase⟩ ?_ rfl; simp; done) | (refine hd ⟨7, .chain⟩ ?_ rfl; simp; done))
          have hd18 : L 18 = true := (by first | (refine hd ⟨18, .data⟩ ?_ rfl; simp; done) | (refine hd ⟨18, .guard⟩ ?_ rfl; simp; done) | (refine hd ⟨18, .phase⟩ ?_ rfl; simp; done) | (refine hd ⟨18, .chain⟩ ?_ rfl; simp; done))
          have e7 := c7 hd7
          rw [e7] at hK
          have e18 := c18 hd18
          rw [e18] at hK
          clear hd7
          clear hd18
          clear hd
          go_simp
          refine hK _ _ ?_ (fun h => by cases h)
          intro s hs
          cases hs
          exact ⟨hB, c0, c1, c2, c3, c4, c5, c6, c7, c8, c9, c10, c11, c12, c13, c14, c15, c16, c17, c18, (fun _ => rfl), c20, c21, c22, c23, c24, c25, c26, c27, c28, c29, c30, c31, c32, c33⟩
        case s20r2 =>
          rintro L u W ⟨hB, c0, c1, c2, c3, c4, c5, c6, c7, c8, c9, c10, c11, c12, c13, c14, c15, c16, c17, c18, c19, c20, c21, c22, c23, c24, c25, c26, c27, c28, c29, c30, c31, c32, c33⟩ hf hd K hK
          dsimp only at hK
          have hd19 : L 19 = true := (by first | (refine hd ⟨19, .data⟩ ?_ rfl; simp; done) | (refine hd ⟨19, .guard⟩ ?_ rfl; simp; done) | (refine hd ⟨19, .phase⟩ ?_ rfl; simp; done) | (refine hd ⟨19, .chain⟩ ?_ rfl; simp; done))
          have e19 := c19 hd19
          rw [e19] at hK
          clear hd19
          clear hd
          go_simp
          refine hK _ _ ?_ (fun h => by cases h)
          intro s hs
          cases hs
          exact ⟨hB, c0, c1, c2, c3, c4, c5, c6, c7, c8, c9, c10, c11, c12, c13, c14, c15, c16, c17, c18, c19, (fun _ => rfl), c21, c22, c23, c24, c25, c26, c27, c28, c29, c30, c31, c32, c33⟩
        case s21r2 =>
          rintro L u W ⟨hB, c0, c1, c2, c3, c4, c5, c6, c7, c8, c9, c10, c11, c12, c13, c14, c15, c16, c17, c18, c19, c20, c21, c22, c23, c24, c25, c26, c27, c28, c29, c30, c31, c32, c33⟩ hf hd K hK
          dsimp only at hK
          have hd20 : L 20 = true := (by first | (refine hd ⟨20, .data⟩ ?_ rfl; simp; done) | (refine hd ⟨20, .guard⟩ ?_ rfl; simp; done) | (refine hd ⟨20, .phase⟩ ?_ rfl; simp; done) | (refine hd ⟨20, .chain⟩ ?_ rfl; simp; done))
          have e20 := c20 hd20
          rw [e20] at hK
          have t0 := keepc hB x0
          have t1 := keepc hB x1
          have t2 := keepc hB x2
          clear hd20
          clear hd
          go_simp
          refine hK _ _ ?_ (fun h => by cases h)
          intro s hs
          cases hs
          exact ⟨hB, c0, c1, c2, c3, c4, c5, c6, c7, c8, c9, c10, c11, c12, c13, c14, c15, c16, c17, c18, c19, c20, (fun _ => rfl), c22, c23, c24, c25, c26, c27, c28, c29, c30, c31, c32, c33⟩
        case s22r2 =>
          rintro L u W ⟨hB, c0, c1, c2, c3, c4, c5, c6, c7, c8, c9, c10, c11, c12, c13, c14, c15, c16, c17, c18, c19, c20, c21, c22, c23, c24, c25, c26, c27, c28, c29, c30, c31, c32, c33⟩ hf hd K hK
          dsimp only at hK
          have hd20 : L 20 = true := (by first | (refine hd ⟨20, .data⟩ ?_ rfl; simp; done) | (refine hd ⟨20, .guard⟩ ?_ rfl; simp; done) | (refine hd ⟨20, .phase⟩ ?_ rfl; simp; done) | (refine hd ⟨20, .chain⟩ ?_ rfl; simp; done))
          have e20 := c20 hd20
          rw [e20] at hK
          have t0 := keepc hB y0
          have t1 := keepc hB y1
          have t2 := keepc hB y2
          clear hd20
          clear hd
          go_simp
          refine hK _ _ ?_ (fun h => by cases h)
          intro s hs
          cases hs
          exact ⟨hB, c0, c1, c2, c3, c4, c5, c6, c7, c8, c9, c10, c11, c12, c13, c14, c15, c16, c17, c18, c19, c20, c21, (fun _ => rfl), c23, c24, c25, c26, c27, c28, c29, c30, c31, c32, c33⟩
        case s23r2 =>
          rintro L u W ⟨hB, c0, c1, c2, c3, c4, c5, c6, c7, c8, c9, c10, c11, c12, c13, c14, c15, c16, c17, c18, c19, c20, c21, c22, c23, c24, c25, c26, c27, c28, c29, c30, c31, c32, c33⟩ hf hd K hK
          dsimp only at hK
          have hd20 : L 20 = true := (by first | (refine hd ⟨20, .data⟩ ?_ rfl; simp; done) | (refine hd ⟨20, .guard⟩ ?_ rfl; simp; done) | (refine hd ⟨20, .phase⟩ ?_ rfl; simp; done) | (refine hd ⟨20, .chain⟩ ?_ rfl; simp; done))
          have hd21 : L 21 = true := (by first | (refine hd ⟨21, .data⟩ ?_ rfl; simp; done) | (refine hd ⟨21, .guard⟩ ?_ rfl; simp; done) | (refine hd ⟨21, .phase⟩ ?_ rfl; simp; done) | (refine hd ⟨21, .chain⟩ ?_ rfl; simp; done))
          have hd22 : L 22 = true := (by first | (refine hd ⟨22, .data⟩ ?_ rfl; simp; done) | (refine hd ⟨22, .guard⟩ ?_ rfl; simp; done) | (refine hd ⟨22, .phase⟩ ?_ rfl; simp; done) | (refine hd ⟨22, .chain⟩ ?_ rfl; simp; done))
          have e20 := c20 hd20
          rw [e20] at hK
          have e21 := c21 hd21
          rw [e21] at hK
          have e22 := c22 hd22
          rw [e22] at hK
          clear hd20
          clear hd21
          clear hd22
          clear hd
          go_simp
          have hb : Below W.heap.size W (W.alloc (.cells #[.int .i64 a1, .int .i64 a2, .int .i64 a3, .int .i64 b1, .int .i64 b2, .int .i64 b3] 23)) := (Below.refl _ W).alloc (Nat.le_refl _) _
          refine hK _ _ ?_ (fun h => by cases h)
          intro s hs
          cases hs
          exact ⟨hB.trans (hb.mono hB.size), c0, c1, c2, c3, c4, c5, c6, c7, c8, c9, (fun h k => (c10 h k).keep hb), c11, c12, c13, c14, c15, c16, c17, c18, c19, c20, c21, c22, (fun _ _ => ⟨_, rfl, Lok.new _ _ _⟩), c24, c25, c26, c27, c28, c29, c30, c31, c32, c33⟩
        case s24r2 =>
          rintro L u W ⟨hB, c0, c1, c2, c3, c4, c5, c6, c7, c8, c9, c10, c11, c12, c13, c14, c15, c16, c17, c18, c19, c20, c21, c22, c23, c24, c25, c26, c27, c28, c29, c30, c31, c32, c33⟩ hf hd K hK
          dsimp only at hK
          have hd20 : L 20 = true := (by first | (refine hd ⟨20, .data⟩ ?_ rfl; simp; done) | (refine hd ⟨20, .guard⟩ ?_ rfl; simp; done) | (refine hd ⟨20, .phase⟩ ?_ rfl; simp; done) | (refine hd ⟨20, .chain⟩ ?_ rfl; simp; done))
          have hd23 : L 23 = true := (by first | (refine hd ⟨23, .data⟩ ?_ rfl; simp; done) | (refine hd ⟨23, .guard⟩ ?_ rfl; simp; done) | (refine hd ⟨23, .phase⟩ ?_ rfl; simp; done) | (refine hd ⟨23, .chain⟩ ?_ rfl; simp; done))
          have e20 := c20 hd20
          rw [e20] at hK
          have e23 := c23 hd23 (by first | exact hf | assumption)
          clear hd20
          clear hd23
          obtain ⟨g, eg, hl⟩ := e23; rw [eg] at hK
          clear hd
          go_simp
          go_wp2_with (go_at_call 27; ((with_reducible refine (V3.out g _ _ hl).mono ?_); rintro e w5 ⟨rfl, hb⟩))
          refine hK _ _ ?_ (fun h => by cases h)
          intro s hs
          cases hs
          exact ⟨hB.trans (hb.mono hB.size), c0, c1, c2, c3, c4, c5, c6, c7, c8, c9, (fun h k => (c10 h k).keep hb), c11, c12, c13, c14, c15, c16, c17, c18, c19, c20, c21, c22, (fun _ h => by cases h), (fun _ => rfl), c25, c26, c27, c28, c29, c30, c31, c32, c33⟩
        case s25r2 =>
          rintro L u W ⟨hB, c0, c1, c2, c3, c4, c5, c6, c7, c8, c9, c10, c11, c12, c13, c14, c15, c16, c17, c18, c19, c20, c21, c22, c23, c24, c25, c26, c27, c28, c29, c30, c31, c32, c33⟩ hf hd K hK
          dsimp only at hK
          have hd20 : L 20 = true := (by first | (refine hd ⟨20, .data⟩ ?_ rfl; simp; done) | (refine hd ⟨20, .guard⟩ ?_ rfl; simp; done) | (refine hd ⟨20, .phase⟩ ?_ rfl; simp; done) | (refine hd ⟨20, .chain⟩ ?_ rfl; simp; done))
          have e20 := c20 hd20
          rw [e20] at hK
          have t0 := keepc hB x0
          have t1 := keepc hB x1
          have t2 := keepc hB x2
          clear hd20
          clear hd
          go_simp
          refine hK _ _ ?_ (fun h => by cases h)
          intro s hs
          cases hs
          exact ⟨hB, c0, c1, c2, c3, c4, c5, c6, c7, c8, c9, c10, c11, c12, c13, c14, c15, c16, c17, c18, c19, c20, c21, c22, c23, c24, (fun _ => rfl), c26, c27, c28, c29, c30, c31, c32, c33⟩
        case s26r2 =>
          rintro L u W ⟨hB, c0, c1, c2, c3, c4, c5, c6, c7, c8, c9, c10, c11, c12, c13, c14, c15, c16, c17, c18, c19, c20, c21, c22, c23, c24, c25, c26, c27, c28, c29, c30, c31, c32, c33⟩ hf hd K hK
          dsimp only at hK
          have hd20 : L 20 = true := (by first | (refine hd ⟨20, .data⟩ ?_ rfl; simp; done) | (refine hd ⟨20, .guard⟩ ?_ rfl; simp; done) | (refine hd ⟨20, .phase⟩ ?_ rfl; simp; done) | (refine hd ⟨20, .chain⟩ ?_ rfl; simp; done))
          have hd25 : L 25 = true := (by first | (refine hd ⟨25, .data⟩ ?_ rfl; simp; done) | (refine hd ⟨25, .guard⟩ ?_ rfl; simp; done) | (refine hd ⟨25, .phase⟩ ?_ rfl; simp; done) | (refine hd ⟨25, .chain⟩ ?_ rfl; simp; done))
          have e20 := c20 hd20
          rw [e20] at hK
          have e25 := c25 hd25
          rw [e25] at hK
          clear hd20
          clear hd25
          clear hd
          go_simp
          go_wp2_with (go_at_call 28; ((with_reducible refine (RR.out _).mono ?_); rintro e w5 ⟨rfl, hb⟩))
          refine hK _ _ ?_ (fun h => by cases h)
          intro s hs
          cases hs
          exact ⟨hB.trans (hb.mono hB.size), c0, c1, c2, c3, c4, c5, c6, c7, c8, c9, (fun h k => (c10 h k).keep hb), c11, c12, c13, c14, c15, c16, c17, c18, c19, c20, c21, c22, (fun h k => (c23 h k).keep hb), c24, c25, (fun _ => rfl), c27, c28, c29, c30, c31, c32, c33⟩
        case s27r2 =>
          rintro L u W ⟨hB, c0, c1, c2, c3, c4, c5, c6, c7, c8, c9, c10, c11, c12, c13, c14, c15, c16, c17, c18, c19, c20, c21, c22, c23, c24, c25, c26, c27, c28, c29, c30, c31, c32, c33⟩ hf hd K hK
          dsimp only at hK
          have hd20 : L 20 = true := (by first | (refine hd ⟨20, .data⟩ ?_ rfl; simp; done) | (refine hd ⟨20, .guard⟩ ?_ rfl; simp; done) | (refine hd ⟨20, .phase⟩ ?_ rfl; simp; done) | (refine hd ⟨20, .chain⟩ ?_ rfl; simp; done))
          have hd26 : L 26 = true := (by first | (refine hd ⟨26, .data⟩ ?_ rfl; simp; done) | (refine hd ⟨26, .guard⟩ ?_ rfl; simp; done) | (refine hd ⟨26, .phase⟩ ?_ rfl; simp; done) | (refine hd ⟨26, .chain⟩ ?_ rfl; simp; done))
          have e20 := c20 hd20
          rw [e20] at hK
          have e26 := c26 hd26
          rw [e26] at hK
          clear hd20
          clear hd26
          clear hd
          go_simp
          refine hK _ _ ?_ (fun h => by cases h)
          intro s hs
          cases hs
          exact ⟨hB, c0, c1, c2, c3, c4, c5, c6, c7, c8, c9, c10, c11, c12, c13, c14, c15, c16, c17, c18, c19, c20, c21, c22, c23, c24, c25, c26, (fun _ => rfl), c28, c29, c30, c31, c32, c33⟩
        case s28r2 =>
          rintro L u W ⟨hB, c0, c1, c2, c3, c4, c5, c6, c7, c8, c9, c10, c11, c12, c13, c14, c15, c16, c17, c18, c19, c20, c21, c22, c23, c24, c25, c26, c27, c28, c29, c30, c31, c32, c33⟩ hf hd K hK
          dsimp only at hK
          have hd27 : L 27 = true := (by first | (refine hd ⟨27, .data⟩ ?_ rfl; simp; done) | (refine hd ⟨27, .guard⟩ ?_ rfl; simp; done) | (refine hd ⟨27, .phase⟩ ?_ rfl; simp; done) | (refine hd ⟨27, .chain⟩ ?_ rfl; simp; done))
          have e27 := c27 hd27
          rw [e27] at hK
          have t0 := keepc hB y0
          have t1 := keepc hB y1
          have t2 := keepc hB y2
          clear hd27
          clear hd
          go_simp
          refine hK _ _ ?_ (fun h => by cases h)
          intro s hs
          cases hs
          exact ⟨hB, c0, c1, c2, c3, c4, c5, c6, c7, c8, c9, c10, c11, c12, c13, c14, c15, c16, c17, c18, c19, c20, c21, c22, c23, c24, c25, c26, c27, (fun _ => rfl), c29, c30, c31, c32, c33⟩
        case s29r2 =>
          rintro L u W ⟨hB, c0, c1, c2, c3, c4, c5, c6, c7, c8, c9, c10, c11, c12, c13, c14, c15, c16, c17, c18, c19, c20, c21, c22, c23, c24, c25, c26, c27, c28, c29, c30, c31, c32, c33⟩ hf hd K hK
          dsimp only at hK
          have hd27 : L 27 = true := (by first | (refine hd ⟨27, .data⟩ ?_ rfl; simp; done) | (refine hd ⟨27, .guard⟩ ?_ rfl; simp; done) | (refine hd ⟨27, .phase⟩ ?_ rfl; simp; done) | (refine hd ⟨27, .chain⟩ ?_ rfl; simp; done))
          have hd28 : L 28 = true := (by first | (refine hd ⟨28, .data⟩ ?_ rfl; simp; done) | (refine hd ⟨28, .guard⟩ ?_ rfl; simp; done) | (refine hd ⟨28, .phase⟩ ?_ rfl; simp; done) | (refine hd ⟨28, .chain⟩ ?_ rfl; simp; done))
          have e27 := c27 hd27
          rw [e27] at hK
          have e28 := c28 hd28
          rw [e28] at hK
          clear hd27
          clear hd28
          clear hd
          go_simp
          go_wp2_with (go_at_call 28; ((with_reducible refine (RS.out _).mono ?_); rintro e w5 ⟨rfl, hb⟩))
          refine hK _ _ ?_ (fun h => by cases h)
          intro s hs
          cases hs
          exact ⟨hB.trans (hb.mono hB.size), c0, c1, c2, c3, c4, c5, c6, c7, c8, c9, (fun h k => (c10 h k).keep hb), c11, c12, c13, c14, c15, c16, c17, c18, c19, c20, c21, c22, (fun h k => (c23 h k).keep hb), c24, c25, c26, c27, c28, (fun _ => rfl), c30, c31, c32, c33⟩
        case s30r2 =>
          rintro L u W ⟨hB, c0, c1, c2, c3, c4, c5, c6, c7, c8, c9, c10, c11, c12, c13, c14, c15, c16, c17, c18, c19, c20, c21, c22, c23, c24, c25, c26, c27, c28, c29, c30, c31, c32, c33⟩ hf hd K hK
          dsimp only at hK
          have hd20 : L 20 = true := (by first | (refine hd ⟨20, .data⟩ ?_ rfl; simp; done) | (refine hd ⟨20, .guard⟩ ?_ rfl; simp; done) | (refine hd ⟨20, .phase⟩ ?_ rfl; simp; done) | (refine hd ⟨20, .chain⟩ ?_ rfl; simp; done))
          have hd27 : L 27 = true := (by first | (refine hd ⟨27, .data⟩ ?_ rfl; simp; done) | (refine hd ⟨27, .guard⟩ ?_ rfl; simp; done) | (refine hd ⟨27, .phase⟩ ?_ rfl; simp; done) | (refine hd ⟨27, .chain⟩ ?_ rfl; simp; done))
          have hd29 : L 29 = true := (by first | (refine hd ⟨29, .data⟩ ?_ rfl; simp; done) | (refine hd ⟨29, .guard⟩ ?_ rfl; simp; done) | (refine hd ⟨29, .phase⟩ ?_ rfl; simp; done) | (refine hd ⟨29, .chain⟩ ?_ rfl; simp; done))
          have e20 := c20 hd20
          rw [e20] at hK
          have e27 := c27 hd27
          rw [e27] at hK
          have e29 := c29 hd29
          rw [e29] at hK
          clear hd20
          clear hd27
          clear hd29
          clear hd
          go_simp
          refine hK _ _ ?_ (fun h => by cases h)
          intro s hs
          cases hs
          exact ⟨hB, c0, c1, c2, c3, c4, c5, c6, c7, c8, c9, c10, c11, c12, c13, c14, c15, c16, c17, c18, c19, c20, c21, c22, c23, c24, c25, c26, c27, c28, c29, (fun _ => rfl), c31, c32, c33⟩
        case s31r2 =>
          rintro L u W ⟨hB, c0, c1, c2, c3, c4, c5, c6, c7, c8, c9, c10, c11, c12, c13, c14, c15, c16, c17, c18, c19, c20, c21, c22, c23, c24, c25, c26, c27, c28, c29, c30, c31, c32, c33⟩ hf hd K hK
          dsimp only at hK
          have hd20 : L 20 = true := (by first | (refine hd ⟨20, .data⟩ ?_ rfl; simp; done) | (refine hd ⟨20, .guard⟩ ?_ rfl; simp; done) | (refine hd ⟨20, .phase⟩ ?_ rfl; simp; done) | (refine hd ⟨20, .chain⟩ ?_ rfl; simp; done))
          have hd24 : L 24 = true := (by first | (refine hd ⟨24, .data⟩ ?_ rfl; simp; done) | (refine hd ⟨24, .guard⟩ ?_ rfl; simp; done) | (refine hd ⟨24, .phase⟩ ?_ rfl; simp; done) | (refine hd ⟨24, .chain⟩ ?_ rfl; simp; done))
          have hd30 : L 30 = true := (by first | (refine hd ⟨30, .data⟩ ?_ rfl; simp; done) | (refine hd ⟨30, .guard⟩ ?_ rfl; simp; done) | (refine hd ⟨30, .phase⟩ ?_ rfl; simp; done) | (refine hd ⟨30, .chain⟩ ?_ rfl; simp; done))
          have e20 := c20 hd20
          rw [e20] at hK
          have e24 := c24 hd24
          rw [e24] at hK
          have e30 := c30 hd30
          rw [e30] at hK
          clear hd20
          clear hd24
          clear hd30
          clear hd
          go_simp
          refine hK _ _ ?_ (fun h => by cases h)
          intro s hs
          cases hs
          exact ⟨hB, c0, c1, c2, c3, c4, c5, c6, c7, c8, c9, c10, c11, c12, c13, c14, c15, c16, c17, c18, c19, c20, c21, c22, c23, c24, c25, c26, c27, c28, c29, c30, (fun _ => rfl), c32, c33⟩
        case s32r2 =>
          rintro L u W ⟨hB, c0, c1, c2, c3, c4, c5, c6, c7, c8, c9, c10, c11, c12, c13, c14, c15, c16, c17, c18, c19, c20, c21, c22, c23, c24, c25, c26, c27, c28, c29, c30, c31, c32, c33⟩ hf hd K hK
          dsimp only at hK
          have hd20 : L 20 = true := (by first | (refine hd ⟨20, .data⟩ ?_ rfl; simp; done) | (refine hd ⟨20, .guard⟩ ?_ rfl; simp; done) | (refine hd ⟨20, .phase⟩ ?_ rfl; simp; done) | (refine hd ⟨20, .chain⟩ ?_ rfl; simp; done))
          have hd31 : L 31 = true := (by first | (refine hd ⟨31, .data⟩ ?_ rfl; simp; done) | (refine hd ⟨31, .guard⟩ ?_ rfl; simp; done) | (refine hd ⟨31, .phase⟩ ?_ rfl; simp; done) | (refine hd ⟨31, .chain⟩ ?_ rfl; simp; done))
          have e20 := c20 hd20
          rw [e20] at hK
          have e31 := c31 hd31
          rw [e31] at hK
          clear hd20
          clear hd31
          clear hd
          go_simp
          refine hK _ _ ?_ (fun h => by cases h)
          intro s hs
          cases hs
          exact ⟨hB, c0, c1, c2, c3, c4, c5, c6, c7, c8, c9, c10, c11, c12, c13, c14, c15, c16, c17, c18, c19, c20, c21, c22, c23, c24, c25, c26, c27, c28, c29, c30, c31, (fun _ => rfl), c33⟩
        case s33r2 =>
          rintro L u W ⟨hB, c0, c1, c2, c3, c4, c5, c6, c7, c8, c9, c10, c11, c12, c13, c14, c15, c16, c17, c18, c19, c20, c21, c22, c23, c24, c25, c26, c27, c28, c29, c30, c31, c32, c33⟩ hf hd K hK
          dsimp only at hK
          have hd32 : L 32 = true := (by first | (refine hd ⟨32, .data⟩ ?_ rfl; simp; done) | (refine hd ⟨32, .guard⟩ ?_ rfl; simp; done) | (refine hd ⟨32, .phase⟩ ?_ rfl; simp; done) | (refine hd ⟨32, .chain⟩ ?_ rfl; simp; done))
          have e32 := c32 hd32
          rw [e32] at hK
          clear hd32
          clear hd
          go_simp
          refine hK _ _ ?_ (fun h => by cases h)
          intro s hs
          cases hs
          exact ⟨hB, c0, c1, c2, c3, c4, c5, c6, c7, c8, c9, c10, c11, c12, c13, c14, c15, c16, c17, c18, c19, c20, c21, c22, c23, c24, c25, c26, c27, c28, c29, c30, c31, c32, (fun _ => rfl)⟩
      case finr2 =>
        rintro L u W hL ⟨hB, c0, c1, c2, c3, c4, c5, c6, c7, c8, c9, c10, c11, c12, c13, c14, c15, c16, c17, c18, c19, c20, c21, c22, c23, c24, c25, c26, c27, c28, c29, c30, c31, c32, c33⟩
        have e0 := c0 (hL 0 (by decide))
        have e1 := c1 (hL 1 (by decide))
        have e2 := c2 (hL 2 (by decide))
        have e3 := c3 (hL 3 (by decide))
        have e4 := c4 (hL 4 (by decide))
        have e5 := c5 (hL 5 (by decide))
        have e6 := c6 (hL 6 (by decide))
        have e7 := c7 (hL 7 (by decide))
        have e8 := c8 (hL 8 (by decide))
        have e9 := c9 (hL 9 (by decide))
        have e11 := c11 (hL 11 (by decide))
        have e12 := c12 (hL 12 (by decide))
        have e13 := c13 (hL 13 (by decide))
        have e14 := c14 (hL 14 (by decide))
        have e15 := c15 (hL 15 (by decide))
        have e16 := c16 (hL 16 (by decide))
        have e17 := c17 (hL 17 (by decide))
        have e18 := c18 (hL 18 (by decide))
        have e19 := c19 (hL 19 (by decide))
        have e20 := c20 (hL 20 (by decide))
        have e21 := c21 (hL 21 (by decide))
        have e22 := c22 (hL 22 (by decide))
        have e24 := c24 (hL 24 (by decide))
        have e25 := c25 (hL 25 (by decide))
        have e26 := c26 (hL 26 (by decide))
        have e27 := c27 (hL 27 (by decide))
        have e28 := c28 (hL 28 (by decide))
        have e29 := c29 (hL 29 (by decide))
        have e30 := c30 (hL 30 (by decide))
        have e31 := c31 (hL 31 (by decide))
        have e32 := c32 (hL 32 (by decide))
        have e33 := c33 (hL 33 (by decide))
        clear hL c0 c1 c2 c3 c4 c5 c6 c7 c8 c9 c10 c11 c12 c13 c14 c15 c16 c17 c18 c19 c20 c21 c22 c23 c24 c25 c26 c27 c28 c29 c30 c31 c32 c33
        try simp only [e0, e1, e2, e3, e4, e5, e6, e7, e8, e9, e11, e12, e13, e14, e15, e16, e17, e18, e19, e20, e21, e22, e24, e25, e26, e27, e28, e29, e30, e31, e32, e33]
        clear e0 e1 e2 e3 e4 e5 e6 e7 e8 e9 e11 e12 e13 e14 e15 e16 e17 e18 e19 e20 e21 e22 e24 e25 e26 e27 e28 e29 e30 e31 e32 e33
        go_wp2
        go_ret
        exact ⟨rfl, HB.out.trans (hB.mono HB.out.size)⟩
  | true =>
    cases R with
    | false =>
      refine wp_region_rel (by kernel_rfl) [147, 148, 149, 150, 151, 152, 153, 154, 155, 156, 157, 158, 159, 160, 161, 162, 163, 164, 165, 166, 167, 168, 169, 170, 171, 172, 173, 174, 175, 176, 177, 178, 179, 10] ?Fr3 ?hFr3
        (fun L u W => Below v9.heap.size v9 W ∧ (L 0 = true → u 147 = .bool true) ∧ (L 1 = true → u 148 = .bool true) ∧ (L 2 = true → u 149 = .bool true) ∧ (L 3 = true → u 150 = .bool true) ∧ (L 4 = true → u 151 = .bool true) ∧ (L 5 = true → u 152 = .bool true) ∧ (L 6 = true → u 153 = .bool true) ∧ (L 7 = true → u 154 = .bool true) ∧ (L 8 = true → u 155 = .agg #[.int .i64 j1, .int .i64 j2]) ∧ (L 9 = true → u 156 = .agg #[.int .i64 o1, .int .i64 o2]) ∧ (L 10 = true → L 11 = false → RowAt W (u 157) 2 25 #[.int .i64 j1, .int .i64 j2, .int .i64 o1, .int .i64 o2]) ∧ (L 11 = true → u 158 = .bool (true && Q)) ∧ (L 12 = true → u 159 = .agg #[.int .i64 j1, .int .i64 j2]) ∧ (L 13 = true → u 160 = .bool true) ∧ (L 14 = true → u 161 = .bool true) ∧ (L 15 = true → u 162 = .agg #[.int .i64 o1, .int .i64 o2]) ∧ (L 16 = true → u 163 = .bool Q) ∧ (L 17 = true → u 164 = .bool Q) ∧ (L 18 = true → u 165 = .bool true) ∧ (L 19 = true → u 166 = .bool true) ∧ (L 20 = true → u 167 = .bool true) ∧ (L 21 = true → u 168 = .agg #[.int .i64 a1, .int .i64 a2, .int .i64 a3]) ∧ (L 22 = true → u 169 = .agg #[.int .i64 b1, .int .i64 b2, .int .i64 b3]) ∧ (L 23 = true → L 24 = false → RowAt W (u 170) 2 23 #[.int .i64 a1, .int .i64 a2, .int .i64 a3, .int .i64 b1, .int .i64 b2, .int .i64 b3]) ∧ (L 24 = true → u 171 = .bool (false && S)) ∧ (L 25 = true → u 172 = .agg #[.int .i64 a1, .int .i64 a2, .int .i64 a3]) ∧ (L 26 = true → u 173 = .bool false) ∧ (L 27 = true → u 174 = .bool false) ∧ (L 28 = true → u 175 = undef) ∧ (L 29 = true → u 176 = undef) ∧ (L 30 = true → u 177 = .bool false) ∧ (L 31 = true → u 178 = .bool true) ∧ (L 32 = true → u 179 = .bool true) ∧ (L 33 = true → u 10 = .bool true)) (by kernel_rfl) (by kernel_rfl) 34 rfl ?h0r3 ?stepr3 ?finr3
      case hFr3 => intro u; simp only [putAll, Act.put, List.setIfInBounds_toArray, List.set]; exact rfl
      case h0r3 => intro L u hL; exact ⟨(Below.refl _ _).drew, (fun h => by simp [hL] at h), (fun h => by simp [hL] at h), (fun h => by simp [hL] at h), (fun h => by simp [hL] at h), (fun h => by simp [hL] at h), (fun h => by simp [hL] at h), (fun h => by simp [hL] at h), (fun h => by simp [hL] at h), (fun h => by simp [hL] at h), (fun h => by simp [hL] at h), (fun h => by simp [hL] at h), (fun h => by simp [hL] at h), (fun h => by simp [hL] at h), (fun h => by simp [hL] at h), (fun h => by simp [hL] at h), (fun h => by simp [hL] at h), (fun h => by simp [hL] at h), (fun h => by simp [hL] at h), (fun h => by simp [hL] at h), (fun h => by simp [hL] at h), (fun h => by simp [hL] at h), (fun h => by simp [hL] at h), (fun h => by simp [hL] at h), (fun h => by simp [hL] at h), (fun h => by simp [hL] at h), (fun h => by simp [hL] at h), (fun h => by simp [hL] at h), (fun h => by simp [hL] at h), (fun h => by simp [hL] at h), (fun h => by simp [hL] at h), (fun h => by simp [hL] at h), (fun h => by simp [hL] at h), (fun h => by simp [hL] at h), (fun h => by simp [hL] at h)⟩
      case stepr3 =>
        refine ops_all (ops_cons ?s0r3 (ops_cons ?s1r3 (ops_cons ?s2r3 (ops_cons ?s3r3 (ops_cons ?s4r3 (ops_cons ?s5r3 (ops_cons ?s6r3 (ops_cons ?s7r3 (ops_cons ?s8r3 (ops_cons ?s9r3 (ops_cons ?s10r3 (ops_cons ?s11r3 (ops_cons ?s12r3 (ops_cons ?s13r3 (ops_cons ?s14r3 (ops_cons ?s15r3 (ops_cons ?s16r3 (ops_cons ?s17r3 (ops_cons ?s18r3 (ops_cons ?s19r3 (ops_cons ?s20r3 (ops_cons ?s21r3 (ops_cons ?s22r3 (ops_cons ?s23r3 (ops_cons ?s24r3 (ops_cons ?s25r3 (ops_cons ?s26r3 (ops_cons ?s27r3 (ops_cons ?s28r3 (ops_cons ?s29r3 (ops_cons ?s30r3 (ops_cons ?s31r3 (ops_cons ?s32r3 (ops_cons ?s33r3 (ops_nil)))))))))))))))))))))))))))))))))))
        case s0r3 =>
          rintro L u W ⟨hB, c0, c1, c2, c3, c4, c5, c6, c7, c8, c9, c10, c11, c12, c13, c14, c15, c16, c17, c18, c19, c20, c21, c22, c23, c24, c25, c26, c27, c28, c29, c30, c31, c32, c33⟩ hf hd K hK
          dsimp only at hK
          clear hd
          go_simp
          go_wp2_with (go_at_call 24; ((with_reducible refine (crossed_any _).mono ?_); rintro e w5 ⟨rfl, hb⟩))
          refine hK _ _ ?_ (fun h => by cases h)
          intro s hs
          cases hs
          exact ⟨hB.trans (hb.mono hB.size), (fun _ => rfl), c1, c2, c3, c4, c5, c6, c7, c8, c9, (fun h k => (c10 h k).keep hb), c11, c12, c13, c14, c15, c16, c17, c18, c19, c20, c21, c22, (fun h k => (c23 h k).keep hb), c24, c25, c26, c27, c28, c29, c30, c31, c32, c33⟩
        case s1r3 =>
          rintro L u W ⟨hB, c0, c1, c2, c3, c4, c5, c6, c7, c8, c9, c10, c11, c12, c13, c14, c15, c16, c17, c18, c19, c20, c21, c22, c23, c24, c25, c26, c27, c28, c29, c30, c31, c32, c33⟩ hf hd K hK
          dsimp only at hK
          have hd0 : L 0 = true := (by first | (refine hd ⟨0, .data⟩ ?_ rfl; simp; done) | (refine hd ⟨0, .guard⟩ ?_ rfl; simp; done) | (refine hd ⟨0, .phase⟩ ?_ rfl; simp; done) | (refine hd ⟨0, .chain⟩ ?_ rfl; simp; done))
          have e0 := c0 hd0
          rw [e0] at hK
          clear hd0
          clear hd
          go_simp
          refine hK _ _ ?_ (fun h => by cases h)
          intro s hs
          cases hs
          exact ⟨hB, c0, (fun _ => rfl), c2, c3, c4, c5, c6, c7, c8, c9, c10, c11, c12, c13, c14, c15, c16, c17, c18, c19, c20, c21, c22, c23, c24, c25, c26, c27, c28, c29, c30, c31, c32, c33⟩
        case s2r3 =>
          rintro L u W ⟨hB, c0, c1, c2, c3, c4, c5, c6, c7, c8, c9, c10, c11, c12, c13, c14, c15, c16, c17, c18, c19, c20, c21, c22, c23, c24, c25, c26, c27, c28, c29, c30, c31, c32, c33⟩ hf hd K hK
          dsimp only at hK
          have hd1 : L 1 = true := (by first | (refine hd ⟨1, .data⟩ ?_ rfl; simp; done) | (refine hd ⟨1, .guard⟩ ?_ rfl; simp; done) | (refine hd ⟨1, .phase⟩ ?_ rfl; simp; done) | (refine hd ⟨1, .chain⟩ ?_ rfl; simp; done))
          have e1 := c1 hd1
          rw [e1] at hK
          clear hd1
          clear hd
          go_simp
          refine hK _ _ ?_ (fun h => by cases h)
          intro s hs
          cases hs
          exact ⟨hB, c0, c1, (fun _ => rfl), c3, c4, c5, c6, c7, c8, c9, c10, c11, c12, c13, c14, c15, c16, c17, c18, c19, c20, c21, c22, c23, c24, c25, c26, c27, c28, c29, c30, c31, c32, c33⟩
        case s3r3 =>
          rintro L u W ⟨hB, c0, c1, c2, c3, c4, c5, c6, c7, c8, c9, c10, c11, c12, c13, c14, c15, c16, c17, c18, c19, c20, c21, c22, c23, c24, c25, c26, c27, c28, c29, c30, c31, c32, c33⟩ hf hd K hK
          dsimp only at hK
          have hd1 : L 1 = true := (by first | (refine hd ⟨1, .data⟩ ?_ rfl; simp; done) | (refine hd ⟨1, .guard⟩ ?_ rfl; simp; done) | (refine hd ⟨1, .phase⟩ ?_ rfl; simp; done) | (refine hd ⟨1, .chain⟩ ?_ rfl; simp; done))
          have hd2 : L 2 = true := (by first | (refine hd ⟨2, .data⟩ ?_ rfl; simp; done) | (refine hd ⟨2, .guard⟩ ?_ rfl; simp; done) | (refine hd ⟨2, .phase⟩ ?_ rfl; simp; done) | (refine hd ⟨2, .chain⟩ ?_ rfl; simp; done))
          have e1 := c1 hd1
          rw [e1] at hK
          have e2 := c2 hd2
          rw [e2] at hK
          clear hd1
          clear hd2
          clear hd
          go_simp
          refine hK _ _ ?_ (fun h => by cases h)
          intro s hs
          cases hs
          exact ⟨hB, c0, c1, c2, (fun _ => rfl), c4, c5, c6, c7, c8, c9, c10, c11, c12, c13, c14, c15, c16, c17, c18, c19, c20, c21, c22, c23, c24, c25, c26, c27, c28, c29, c30, c31, c32, c33⟩
        case s4r3 =>
          rintro L u W ⟨hB, c0, c1, c2, c3, c4, c5, c6, c7, c8, c9, c10, c11, c12, c13, c14, c15, c16, c17, c18, c19, c20, c21, c22, c23, c24, c25, c26, c27, c28, c29, c30, c31, c32, c33⟩ hf hd K hK
          dsimp only at hK
          have hd3 : L 3 = true := (by first | (refine hd ⟨3, .data⟩ ?_ rfl; simp; done) | (refine hd ⟨3, .guard⟩ ?_ rfl; simp; done) | (refine hd ⟨3, .phase⟩ ?_ rfl; simp; done) | (refine hd ⟨3, .chain⟩ ?_ rfl; simp; done))
          have e3 := c3 hd3
          rw [e3] at hK
          clear hd3
          clear hd
          go_simp
          refine hK _ _ ?_ (fun h => by cases h)
          intro s hs
          cases hs
          exact ⟨hB, c0, c1, c2, c3, (fun _ => rfl), c5, c6, c7, c8, c9, c10, c11, c12, c13, c14, c15, c16, c17, c18, c19, c20, c21, c22, c23, c24, c25, c26, c27, c28, c29, c30, c31, c32, c33⟩
        case s5r3 =>
          rintro L u W ⟨hB, c0, c1, c2, c3, c4, c5, c6, c7, c8, c9, c10, c11, c12, c13, c14, c15, c16, c17, c18, c19, c20, c21, c22, c23, c24, c25, c26, c27, c28, c29, c30, c31, c32, c33⟩ hf hd K hK
          dsimp only at hK
          have hd4 : L 4 = true := (by first | (refine hd ⟨4, .data⟩ ?_ rfl; simp; done) | (refine hd ⟨4, .guard⟩ ?_ rfl; simp; done) | (refine hd ⟨4, .phase⟩ ?_ rfl; simp; done) | (refine hd ⟨4, .chain⟩ ?_ rfl; simp; done))
          have e4 := c4 hd4
          rw [e4] at hK
          clear hd4
          clear hd
          go_simp
          refine hK _ _ ?_ (fun h => by cases h)
          intro s hs
          cases hs
          exact ⟨hB, c0, c1, c2, c3, c4, (fun _ => rfl), c6, c7, c8, c9, c10, c11, c12, c13, c14, c15, c16, c17, c18, c19, c20, c21, c22, c23, c24, c25, c26, c27, c28, c29, c30, c31, c32, c33⟩
        case s6r3 =>
          rintro L u W ⟨hB, c0, c1, c2, c3, c4, c5, c6, c7, c8, c9, c10, c11, c12, c13, c14, c15, c16, c17, c18, c19, c20, c21, c22, c23, c24, c25, c26, c27, c28, c29, c30, c31, c32, c33⟩ hf hd K hK
          dsimp only at hK
          have hd4 : L 4 = true := (by first | (refine hd ⟨4, .data⟩ ?_ rfl; simp; done) | (refine hd ⟨4, .guard⟩ ?_ rfl; simp; done) | (refine hd ⟨4, .phase⟩ ?_ rfl; simp; done) | (refine hd ⟨4, .chain⟩ ?_ rfl; simp; done))
          have hd5 : L 5 = true := (by first | (refine hd ⟨5, .data⟩ ?_ rfl; simp; done) | (refine hd ⟨5, .guard⟩ ?_ rfl; simp; done) | (refine hd ⟨5, .phase⟩ ?_ rfl; simp; done) | (refine hd ⟨5, .chain⟩ ?_ rfl; simp; done))
          have e4 := c4 hd4
          rw [e4] at hK
          have e5 := c5 hd5
          rw [e5] at hK
          clear hd4
          clear hd5
          clear hd
          go_simp
          refine hK _ _ ?_ (fun h => by cases h)
          intro s hs
          cases hs
          exact ⟨hB, c0, c1, c2, c3, c4, c5, (fun _ => rfl), c7, c8, c9, c10, c11, c12, c13, c14, c15, c16, c17, c18, c19, c20, c21, c22, c23, c24, c25, c26, c27, c28, c29, c30, c31, c32, c33⟩
        case s7r3 =>
          rintro L u W ⟨hB, c0, c1, c2, c3, c4, c5, c6, c7, c8, c9, c10, c11, c12, c13, c14, c15, c16, c17, c18, c19, c20, c21, c22, c23, c24, c25, c26, c27, c28, c29, c30, c31, c32, c33⟩ hf hd K hK
          dsimp only at hK
          have hd6 : L 6 = true := (by first | (refine hd ⟨6, .data⟩ ?_ rfl; simp; done) | (refine hd ⟨6, .guard⟩ ?_ rfl; simp; done) | (refine hd ⟨6, .phase⟩ ?_ rfl; simp; done) | (refine hd ⟨6, .chain⟩ ?_ rfl; simp; done))
          have e6 := c6 hd6
          rw [e6] at hK
          clear hd6
          clear hd
          go_simp
          refine hK _ _ ?_ (fun h => by cases h)
          intro s hs
          cases hs
          exact ⟨hB, c0, c1, c2, c3, c4, c5, c6, (fun _ => rfl), c8, c9, c10, c11, c12, c13, c14, c15, c16, c17, c18, c19, c20, c21, c22, c23, c24, c25, c26, c27, c28, c29, c30, c31, c32, c33⟩
        case s8r3 =>
          rintro L u W ⟨hB, c0, c1, c2, c3, c4, c5, c6, c7, c8, c9, c10, c11, c12, c13, c14, c15, c16, c17, c18, c19, c20, c21, c22, c23, c24, c25, c26, c27, c28, c29, c30, c31, c32, c33⟩ hf hd K hK
          dsimp only at hK
          have hd7 : L 7 = true := (by first | (refine hd ⟨7, .data⟩ ?_ rfl; simp; done) | (refine hd ⟨7, .guard⟩ ?_ rfl; simp; done) | (refine hd ⟨7, .phase⟩ ?_ rfl; simp; done) | (refine hd ⟨7, .chain⟩ ?_ rfl; simp; done))
          have e7 := c7 hd7
          rw [e7] at hK
          have t0 := keepc hB z0
          have t1 := keepc hB z1
          clear hd7
          clear hd
          go_simp
          refine hK _ _ ?_ (fun h => by cases h)
          intro s hs
          cases hs
          exact ⟨hB, c0, c1, c2, c3, c4, c5, c6, c7, (fun _ => rfl), c9, c10, c11, c12, c13, c14, c15, c16, c17, c18, c19, c20, c21, c22, c23, c24, c25, c26, c27, c28, c29, c30, c31, c32, c33⟩
        case s9r3 =>
          rintro L u W ⟨hB, c0, c1, c2, c3, c4, c5, c6, c7, c8, c9, c10, c11, c12, c13, c14, c15, c16, c17, c18, c19, c20, c21, c22, c23, c24, c25, c26, c27, c28, c29, c30, c31, c32, c33⟩ hf hd K hK
          dsimp only at hK
          have hd7 : L 7 = true := (by first | (refine hd ⟨7, .data⟩ ?_ rfl; simp; done) | (refine hd ⟨7, .guard⟩ ?_ rfl; simp; done) | (refine hd ⟨7, .phase⟩ ?_ rfl; simp; done) | (refine hd ⟨7, .chain⟩ ?_ rfl; simp; done))
          have e7 := c7 hd7
          rw [e7] at hK
          have t0 := keepc hB u0
          have t1 := keepc hB u1
          clear hd7
          clear hd
          go_simp
          refine hK _ _ ?_ (fun h => by cases h)
          intro s hs
          cases hs
          exact ⟨hB, c0, c1, c2, c3, c4, c5, c6, c7, c8, (fun _ => rfl), c10, c11, c12, c13, c14, c15, c16, c17, c18, c19, c20, c21, c22, c23, c24, c25, c26, c27, c28, c29, c30, c31, c32, c33⟩
        case s10r3 =>
          rintro L u W ⟨hB, c0, c1, c2, c3, c4, c5, c6, c7, c8, c9, c10, c11, c12, c13, c14, c15, c16, c17, c18, c19, c20, c21, c22, c23, c24, c25, c26, c27, c28, c29, c30, c31, c32, c33⟩ hf hd K hK
          dsimp only at hK
          have hd7 : L 7 = true := (by first | (refine hd ⟨7, .data⟩ ?_ rfl; simp; done) | (refine hd ⟨7, .guard⟩ ?_ rfl; simp; done) | (refine hd ⟨7, .phase⟩ ?_ rfl; simp; done) | (refine hd ⟨7, .chain⟩ ?_ rfl; simp; done))
          have hd8 : L 8 = true := (by first | (refine hd ⟨8, .data⟩ ?_ rfl; simp; done) | (refine hd ⟨8, .guard⟩ ?_ rfl; simp; done) | (refine hd ⟨8, .phase⟩ ?_ rfl; simp; done) | (refine hd ⟨8, .chain⟩ ?_ rfl; simp; done))
          have hd9 : L 9 = true := (by first | (refine hd ⟨9, .data⟩ ?_ rfl; simp; done) | (refine hd ⟨9, .guard⟩ ?_ rfl; simp; done) | (refine hd ⟨9, .phase⟩ ?_ rfl; simp; done) | (refine hd ⟨9, .chain⟩ ?_ rfl; simp; done))
          have e7 := c7 hd7
          rw [e7] at hK
          have e8 := c8 hd8
          rw [e8] at hK
          have e9 := c9 hd9
          rw [e9] at hK
          clear hd7
          clear hd8
          clear hd9
          clear hd
          go_simp
          have hb : Below W.heap.size W (W.alloc (.cells #[.int .i64 j1, .int .i64 j2, .int .i64 o1, .int .i64 o2] 25)) := (Below.refl _ W).alloc (Nat.le_refl _) _
          refine hK _ _ ?_ (fun h => by cases h)
          intro s hs
          cases hs
          exact ⟨hB.trans (hb.mono hB.size), c0, c1, c2, c3, c4, c5, c6, c7, c8, c9, (fun _ _ => ⟨_, rfl, Lok.new _ _ _⟩), c11, c12, c13, c14, c15, c16, c17, c18, c19, c20, c21, c22, (fun h k => (c23 h k).keep hb), c24, c25, c26, c27, c28, c29, c30, c31, c32, c33⟩
        case s11r3 =>
          rintro L u W ⟨hB, c0, c1, c2, c3, c4, c5, c6, c7, c8, c9, c10, c11, c12, c13, c14, c15, c16, c17, c18, c19, c20, c21, c22, c23, c24, c25, c26, c27, c28, c29, c30, c31, c32, c33⟩ hf hd K hK
          dsimp only at hK
          have hd7 : L 7 = true := (by first | (refine hd ⟨7, .data⟩ ?_ rfl; simp; done) | (refine hd ⟨7, .guard⟩ ?_ rfl; simp; done) | (refine hd ⟨7, .phase⟩ ?_ rfl; simp; done) | (refine hd ⟨7, .chain⟩ ?_ rfl; simp; done))
          have hd10 : L 10 = true := (by first | (refine hd ⟨10, .data⟩ ?_ rfl; simp; done) | (refine hd ⟨10, .guard⟩ ?_ rfl; simp; done) | (refine hd ⟨10, .phase⟩ ?_ rfl; simp; done) | (refine hd ⟨10, .chain⟩ ?_ rfl; simp; done))
          have e7 := c7 hd7
          rw [e7] at hK
          have e10 := c10 hd10 (by first | exact hf | assumption)
          clear hd7
          clear hd10
          obtain ⟨g, eg, hl⟩ := e10; rw [eg] at hK
          clear hd
          go_simp
          go_wp2_with (go_at_call 25; ((with_reducible refine (V2.out g _ _ hl).mono ?_); rintro e w5 ⟨rfl, hb⟩))
          refine hK _ _ ?_ (fun h => by cases h)
          intro s hs
          cases hs
          exact ⟨hB.trans (hb.mono hB.size), c0, c1, c2, c3, c4, c5, c6, c7, c8, c9, (fun _ h => by cases h), (fun _ => rfl), c12, c13, c14, c15, c16, c17, c18, c19, c20, c21, c22, (fun h k => (c23 h k).keep hb), c24, c25, c26, c27, c28, c29, c30, c31, c32, c33⟩
        case s12r3 =>
          rintro L u W ⟨hB, c0, c1, c2, c3, c4, c5, c6, c7, c8, c9, c10, c11, c12, c13, c14, c15, c16, c17, c18, c19, c20, c21, c22, c23, c24, c25, c26, c27, c28, c29, c30, c31, c32, c33⟩ hf hd K hK
          dsimp only at hK
          have hd7 : L 7 = true := (by first | (refine hd ⟨7, .data⟩ ?_ rfl; simp; done) | (refine hd ⟨7, .guard⟩ ?_ rfl; simp; done) | (refine hd ⟨7, .phase⟩ ?_ rfl; simp; done) | (refine hd ⟨7, .chain⟩ ?_ rfl; simp; done))
          have e7 := c7 hd7
          rw [e7] at hK
          have t0 := keepc hB z0
          have t1 := keepc hB z1
          clear hd7
          clear hd
          go_simp
          refine hK _ _ ?_ (fun h => by cases h)
          intro s hs
          cases hs
          exact ⟨hB, c0, c1, c2, c3, c4, c5, c6, c7, c8, c9, c10, c11, (fun _ => rfl), c13, c14, c15, c16, c17, c18, c19, c20, c21, c22, c23, c24, c25, c26, c27, c28, c29, c30, c31, c32, c33⟩
        case s13r3 =>
          rintro L u W ⟨hB, c0, c1, c2, c3, c4, c5, c6, c7, c8, c9, c10, c11, c12, c13, c14, c15, c16, c17, c18, c19, c20, c21, c22, c23, c24, c25, c26, c27, c28, c29, c30, c31, c32, c33⟩ hf hd K hK
          dsimp only at hK
          have hd7 : L 7 = true := (by first | (refine hd ⟨7, .data⟩ ?_ rfl; simp; done) | (refine hd ⟨7, .guard⟩ ?_ rfl; simp; done) | (refine hd ⟨7, .phase⟩ ?_ rfl; simp; done) | (refine hd ⟨7, .chain⟩ ?_ rfl; simp; done))
          have hd12 : L 12 = true := (by first | (refine hd ⟨12, .data⟩ ?_ rfl; simp; done) | (refine hd ⟨12, .guard⟩ ?_ rfl; simp; done) | (refine hd ⟨12, .phase⟩ ?_ rfl; simp; done) | (refine hd ⟨12, .chain⟩ ?_ rfl; simp; done))
          have e7 := c7 hd7
          rw [e7] at hK
          have e12 := c12 hd12
          rw [e12] at hK
          clear hd7
          clear hd12
          clear hd
          go_simp
          go_wp2_with (go_at_call 26; ((with_reducible refine (RP.out _).mono ?_); rintro e w5 ⟨rfl, hb⟩))
          refine hK _ _ ?_ (fun h => by cases h)
          intro s hs
          cases hs
          exact ⟨hB.trans (hb.mono hB.size), c0, c1, c2, c3, c4, c5, c6, c7, c8, c9, (fun h k => (c10 h k).keep hb), c11, c12, (fun _ => rfl), c14, c15, c16, c17, c18, c19, c20, c21, c22, (fun h k => (c23 h k).keep hb), c24, c25, c26, c27, c28, c29, c30, c31, c32, c33⟩
        case s14r3 =>
          rintro L u W ⟨hB, c0, c1, c2, c3, c4, c5, c6, c7, c8, c9, c10, c11, c12, c13, c14, c15, c16, c17, c18, c19, c20, c21, c22, c23, c24, c25, c26, c27, c28, c29, c30, c31, c32, c33⟩ hf hd K hK
          dsimp only at hK
          have hd7 : L 7 = true := (by first | (refine hd ⟨7, .data⟩ ?_ rfl; simp; done) | (refine hd ⟨7, .guard⟩ ?_ rfl; simp; done) | (refine hd ⟨7, .phase⟩ ?_ rfl; simp; done) | (refine hd ⟨7, .chain⟩ ?_ rfl; simp; done))
          have hd13 : L 13 = true := (by first | (refine hd ⟨13, .data⟩ ?_ rfl; simp; done) | (refine hd ⟨13, .guard⟩ ?_ rfl; simp; done) | (refine hd ⟨13, .phase⟩ ?_ rfl; simp; done) | (refine hd ⟨13, .chain⟩ ?_ rfl; simp; done))
          have e7 := c7 hd7
          rw [e7] at hK
          have e13 := c13 hd13
          rw [e13] at hK
          clear hd7
          clear hd13
          clear hd
          go_simp
          refine hK _ _ ?_ (fun h => by cases h)
          intro s hs
          cases hs
          exact ⟨hB, c0, c1, c2, c3, c4, c5, c6, c7, c8, c9, c10, c11, c12, c13, (fun _ => rfl), c15, c16, c17, c18, c19, c20, c21, c22, c23, c24, c25, c26, c27, c28, c29, c30, c31, c32, c33⟩
        case s15r3 =>
          rintro L u W ⟨hB, c0, c1, c2, c3, c4, c5, c6, c7, c8, c9, c10, c11, c12, c13, c14, c15, c16, c17, c18, c19, c20, c21, c22, c23, c24, c25, c26, c27, c28, c29, c30, c31, c32, c33⟩ hf hd K hK
          dsimp only at hK
          have hd14 : L 14 = true := (by first | (refine hd ⟨14, .data⟩ ?_ rfl; simp; done) | (refine hd ⟨14, .guard⟩ ?_ rfl; simp; done) | (refine hd ⟨14, .phase⟩ ?_ rfl; simp; done) | (refine hd ⟨14, .chain⟩ ?_ rfl; simp; done))
          have e14 := c14 hd14
          rw [e14] at hK
          have t0 := keepc hB u0
          have t1 := keepc hB u1
          clear hd14
          clear hd
          go_simp
          refine hK _ _ ?_ (fun h => by cases h)
          intro s hs
          cases hs
          exact ⟨hB, c0, c1, c2, c3, c4, c5, c6, c7, c8, c9, c10, c11, c12, c13, c14, (fun _ => rfl), c16, c17, c18, c19, c20, c21, c22, c23, c24, c25, c26, c27, c28, c29, c30, c31, c32, c33⟩
        case s16r3 =>
          rintro L u W ⟨hB, c0, c1, c2, c3, c4, c5, c6, c7, c8, c9, c10, c11, c12, c13, c14, c15, c16, c17, c18, c19, c20, c21, c22, c23, c24, c25, c26, c27, c28, c29, c30, c31, c32, c33⟩ hf hd K hK
          dsimp only at hK
          have hd14 : L 14 = true := (by first | (refine hd ⟨14, .data⟩ ?_ rfl; simp; done) | (refine hd ⟨14, .guard⟩ ?_ rfl; simp; done) | (refine hd ⟨14, .phase⟩ ?_ rfl; simp; done) | (refine hd ⟨14, .chain⟩ ?_ rfl; simp; done))
          have hd15 : L 15 = true := (by first | (refine hd ⟨15, .data⟩ ?_ rfl; simp; done) | (refine hd ⟨15, .guard⟩ ?_ rfl; simp; done) | (refine hd ⟨15, .phase⟩ ?_ rfl; simp; done) | (refine hd ⟨15, .chain⟩ ?_ rfl; simp; done))
          have e14 := c14 hd14
          rw [e14] at hK
          have e15 := c15 hd15
          rw [e15] at hK
          clear hd14
          clear hd15
          clear hd
          go_simp
          go_wp2_with (go_at_call 26; ((with_reducible refine (RQ.out _).mono ?_); rintro e w5 ⟨rfl, hb⟩))
          refine hK _ _ ?_ (fun h => by cases h)
          intro s hs
          cases hs
          exact ⟨hB.trans (hb.mono hB.size), c0, c1, c2, c3, c4, c5, c6, c7, c8, c9, (fun h k => (c10 h k).keep hb), c11, c12, c13, c14, c15, (fun _ => rfl), c17, c18, c19, c20, c21, c22, (fun h k => (c23 h k).keep hb), c24, c25, c26, c27, c28, c29, c30, c31, c32, c33⟩
        case s17r3 =>
          rintro L u W ⟨hB, c0, c1, c2, c3, c4, c5, c6, c7, c8, c9, c10, c11, c12, c13, c14, c15, c16, c17, c18, c19, c20, c21, c22, c23, c24, c25, c26, c27, c28, c29, c30, c31, c32, c33⟩ hf hd K hK
          dsimp only at hK
          have hd7 : L 7 = true := (by first | (refine hd ⟨7, .data⟩ ?_ rfl; simp; done) | (refine hd ⟨7, .guard⟩ ?_ rfl; simp; done) | (refine hd ⟨7, .phase⟩ ?_ rfl; simp; done) | (refine hd ⟨7, .chain⟩ ?_ rfl; simp; done))
          have hd14 : L 14 = true := (by first | (refine hd ⟨14, .data⟩ ?_ rfl; simp; done) | (refine hd ⟨14, .guard⟩ ?_ rfl; simp; done) | (refine hd ⟨14, .phase⟩ ?_ rfl; simp; done) | (refine hd ⟨14, .chain⟩ ?_ rfl; simp; done))
          have hd16 : L 16 = true := (by first | (refine hd ⟨16, .data⟩ ?_ rfl; simp; done) | (refine hd ⟨16, .guard⟩ ?_ rfl; simp; done) | (refine hd ⟨16, .phase⟩ ?_ rfl; simp; done) | (refine hd ⟨16, .chain⟩ ?_ rfl; simp; done))
          have e7 := c7 hd7
          rw [e7] at hK
          have e14 := c14 hd14
          rw [e14] at hK
          have e16 := c16 hd16
          rw [e16] at hK
          clear hd7
          clear hd14
          clear hd16
          clear hd
          go_simp
          refine hK _ _ ?_ (fun h => by cases h)
          intro s hs
          cases hs
          exact ⟨hB, c0, c1, c2, c3, c4, c5, c6, c7, c8, c9, c10, c11, c12, c13, c14, c15, c16, (fun _ => rfl), c18, c19, c20, c21, c22, c23, c24, c25, c26, c27, c28, c29, c30, c31, c32, c33⟩
        case s18r3 =>
          rintro L u W ⟨hB, c0, c1, c2, c3, c4, c5, c6, c7, c8, c9, c10, c11, c12, c13, c14, c15, c16, c17, c18, c19, c20, c21, c22, c23, c24, c25, c26, c27, c28, c29, c30, c31, c32, c33⟩ hf hd K hK
          dsimp only at hK
          have hd7 : L 7 = true := (by first | (refine hd ⟨7, .data⟩ ?_ rfl; simp; done) | (refine hd ⟨7, .guard⟩ ?_ rfl; simp; done) | (refine hd ⟨7, .phase⟩ ?_ rfl; simp; done) | (refine hd ⟨7, .chain⟩ ?_ rfl; simp; done))
          have hd11 : L 11 = true := (by first | (refine hd ⟨11, .data⟩ ?_ rfl; simp; done) | (refine hd ⟨11, .guard⟩ ?_ rfl; simp; done) | (refine hd ⟨11, .phase⟩ ?_ rfl; simp; done) | (refine hd ⟨11, .chain⟩ ?_ rfl; simp; done))
          have hd17 : L 17 = true := (by first | (refine hd ⟨17, .data⟩ ?_ rfl; simp; done) | (refine hd ⟨17, .guard⟩ ?_ rfl; simp; done) | (refine hd ⟨17, .phase⟩ ?_ rfl; simp; done) | (refine hd ⟨17, .chain⟩ ?_ rfl; simp; done))
          have e7 := c7 hd7
          rw [e7] at hK
          have e11 := c11 hd11
          rw [e11] at hK
          have e17 := c17 hd17
          rw [e17] at hK
          clear hd7
          clear hd11
          clear hd17
          clear hd
          go_simp
          refine hK _ _ ?_ (fun h => by cases h)
          intro s hs
          cases hs
          exact ⟨hB, c0, c1, c2, c3, c4, c5, c6, c7, c8, c9, c10, c11, c12, c13, c14, c15, c16, c17, (fun _ => rfl), c19, c20, c21, c22, c23, c24, c25, c26, c27, c28, c29, c30, c31, c32, c33⟩
        case s19r3 =>
          rintro L u W ⟨hB, c0, c1, c2, c3, c4, c5, c6, c7, c8, c9, c10, c11, c12, c13, c14, c15, c16, c17, c18, c19, c20, c21, c22, c23, c24, c25, c26, c27, c28, c29, c30, c31, c32, c33⟩ hf hd K hK
          dsimp only at hK
          have hd7 : L 7 = true := (by first | (refine hd ⟨7, .data⟩ ?_ rfl; simp; done) | (refine hd ⟨7, .guard⟩ ?_ rfl; simp; done) | (refine hd ⟨7, .phase⟩ ?_ rfl; simp; done) | (refine hd ⟨7, .chain⟩ ?_ rfl; simp; done))
          have hd18 : L 18 = true := (by first | (refine hd ⟨18, .data⟩ ?_ rfl; simp; done) | (refine hd ⟨18, .guard⟩ ?_ rfl; simp; done) | (refine hd ⟨18, .phase⟩ ?_ rfl; simp; done) | (refine hd ⟨18, .chain⟩ ?_ rfl; simp; done))
          have e7 := c7 hd7
          rw [e7] at hK
          have e18 := c18 hd18
          rw [e18] at hK
          clear hd7
          clear hd18
          clear hd
          go_simp
          refine hK _ _ ?_ (fun h => by cases h)
          intro s hs
          cases hs
          exact ⟨hB, c0, c1, c2, c3, c4, c5, c6, c7, c8, c9, c10, c11, c12, c13, c14, c15, c16, c17, c18, (fun _ => rfl), c20, c21, c22, c23, c24, c25, c26, c27, c28, c29, c30, c31, c32, c33⟩
        case s20r3 =>
          rintro L u W ⟨hB, c0, c1, c2, c3, c4, c5, c6, c7, c8, c9, c10, c11, c12, c13, c14, c15, c16, c17, c18, c19, c20, c21, c22, c23, c24, c25, c26, c27, c28, c29, c30, c31, c32, c33⟩ hf hd K hK
          dsimp only at hK
          have hd19 : L 19 = true := (by first | (refine hd ⟨19, .data⟩ ?_ rfl; simp; done) | (refine hd ⟨19, .guard⟩ ?_ rfl; simp; done) | (refine hd ⟨19, .phase⟩ ?_ rfl; simp; done) | (refine hd ⟨19, .chain⟩ ?_ rfl; simp; done))
          have e19 := c19 hd19
          rw [e19] at hK
          clear hd19
          clear hd
          go_simp
          refine hK _ _ ?_ (fun h => by cases h)
          intro s hs
          cases hs
          exact ⟨hB, c0, c1, c2, c3, c4, c5, c6, c7, c8, c9, c10, c11, c12, c13, c14, c15, c16, c17, c18, c19, (fun _ => rfl), c21, c22, c23, c24, c25, c26, c27, c28, c29, c30, c31, c32, c33⟩
        case s21r3 =>
          rintro L u W ⟨hB, c0, c1, c2, c3, c4, c5, c6, c7, c8, c9, c10, c11, c12, c13, c14, c15, c16, c17, c18, c19, c20, c21, c22, c23, c24, c25, c26, c27, c28, c29, c30, c31, c32, c33⟩ hf hd K hK
          dsimp only at hK
          have hd20 : L 20 = true := (by first | (refine hd ⟨20, .data⟩ ?_ rfl; simp; done) | (refine hd ⟨20, .guard⟩ ?_ rfl; simp; done) | (refine hd ⟨20, .phase⟩ ?_ rfl; simp; done) | (refine hd ⟨20, .chain⟩ ?_ rfl; simp; done))
          have e20 := c20 hd20
          rw [e20] at hK
          have t0 := keepc hB x0
          have t1 := keepc hB x1
          have t2 := keepc hB x2
          clear hd20
          clear hd
          go_simp
          refine hK _ _ ?_ (fun h => by cases h)
          intro s hs
          cases hs
          exact ⟨hB, c0, c1, c2, c3, c4, c5, c6, c7, c8, c9, c10, c11, c12, c13, c14, c15, c16, c17, c18, c19, c20, (fun _ => rfl), c22, c23, c24, c25, c26, c27, c28, c29, c30, c31, c32, c33⟩
        case s22r3 =>
          rintro L u W ⟨hB, c0, c1, c2, c3, c4, c5, c6, c7, c8, c9, c10, c11, c12, c13, c14, c15, c16, c17, c18, c19, c20, c21, c22, c23, c24, c25, c26, c27, c28, c29, c30, c31, c32, c33⟩ hf hd K hK
          dsimp only at hK
          have hd20 : L 20 = true := (by first | (refine hd ⟨20, .data⟩ ?_ rfl; simp; done) | (refine hd ⟨20, .guard⟩ ?_ rfl; simp; done) | (refine hd ⟨20, .phase⟩ ?_ rfl; simp; done) | (refine hd ⟨20, .chain⟩ ?_ rfl; simp; done))
          have e20 := c20 hd20
          rw [e20] at hK
          have t0 := keepc hB y0
          have t1 := keepc hB y1
          have t2 := keepc hB y2
          clear hd20
          clear hd
          go_simp
          refine hK _ _ ?_ (fun h => by cases h)
          intro s hs
          cases hs
          exact ⟨hB, c0, c1, c2, c3, c4, c5, c6, c7, c8, c9, c10, c11, c12, c13, c14, c15, c16, c17, c18, c19, c20, c21, (fun _ => rfl), c23, c24, c25, c26, c27, c28, c29, c30, c31, c32, c33⟩
        case s23r3 =>
          rintro L u W ⟨hB, c0, c1, c2, c3, c4, c5, c6, c7, c8, c9, c10, c11, c12, c13, c14, c15, c16, c17, c18, c19, c20, c21, c22, c23, c24, c25, c26, c27, c28, c29, c30, c31, c32, c33⟩ hf hd K hK
          dsimp only at hK
          have hd20 : L 20 = true := (by first | (refine hd ⟨20, .data⟩ ?_ rfl; simp; done) | (refine hd ⟨20, .guard⟩ ?_ rfl; simp; done) | (refine hd ⟨20, .phase⟩ ?_ rfl; simp; done) | (refine hd ⟨20, .chain⟩ ?_ rfl; simp; done))
          have hd21 : L 21 = true := (by first | (refine hd ⟨21, .data⟩ ?_ rfl; simp; done) | (refine hd ⟨21, .guard⟩ ?_ rfl; simp; done) | (refine hd ⟨21, .phase⟩ ?_ rfl; simp; done) | (refine hd ⟨21, .chain⟩ ?_ rfl; simp; done))
          have hd22 : L 22 = true := (by first | (refine hd ⟨22, .data⟩ ?_ rfl; simp; done) | (refine hd ⟨22, .guard⟩ ?_ rfl; simp; done) | (refine hd ⟨22, .phase⟩ ?_ rfl; simp; done) | (refine hd ⟨22, .chain⟩ ?_ rfl; simp; done))
          have e20 := c20 hd20
          rw [e20] at hK
          have e21 := c21 hd21
          rw [e21] at hK
          have e22 := c22 hd22
          rw [e22] at hK
          clear hd20
          clear hd21
          clear hd22
          clear hd
          go_simp
          have hb : Below W.heap.size W (W.alloc (.cells #[.int .i64 a1, .int .i64 a2, .int .i64 a3, .int .i64 b1, .int .i64 b2, .int .i64 b3] 23)) := (Below.refl _ W).alloc (Nat.le_refl _) _
          refine hK _ _ ?_ (fun h => by cases h)
          intro s hs
          cases hs
          exact ⟨hB.trans (hb.mono hB.size), c0, c1, c2, c3, c4, c5, c6, c7, c8, c9, (fun h k => (c10 h k).keep hb), c11, c12, c13, c14, c15, c16, c17, c18, c19, c20, c21, c22, (fun _ _ => ⟨_, rfl, Lok.new _ _ _⟩), c24, c25, c26, c27, c28, c29, c30, c31, c32, c33⟩
        case s24r3 =>
          rintro L u W ⟨hB, c0, c1, c2, c3, c4, c5, c6, c7, c8, c9, c10, c11, c12, c13, c14, c15, c16, c17, c18, c19, c20, c21, c22, c23, c24, c25, c26, c27, c28, c29, c30, c31, c32, c33⟩ hf hd K hK
          dsimp only at hK
          have hd20 : L 20 = true := (by first | (refine hd ⟨20, .data⟩ ?_ rfl; simp; done) | (refine hd ⟨20, .guard⟩ ?_ rfl; simp; done) | (refine hd ⟨20, .phase⟩ ?_ rfl; simp; done) | (refine hd ⟨20, .chain⟩ ?_ rfl; simp; done))
          have hd23 : L 23 = true := (by first | (refine hd ⟨23, .data⟩ ?_ rfl; simp; done) | (refine hd ⟨23, .guard⟩ ?_ rfl; simp; done) | (refine hd ⟨23, .phase⟩ ?_ rfl; simp; done) | (refine hd ⟨23, .chain⟩ ?_ rfl; simp; done))
          have e20 := c20 hd20
          rw [e20] at hK
          have e23 := c23 hd23 (by first | exact hf | assumption)
          clear hd20
          clear hd23
          obtain ⟨g, eg, hl⟩ := e23; rw [eg] at hK
          clear hd
          go_simp
          go_wp2_with (go_at_call 27; ((with_reducible refine (V3.out g _ _ hl).mono ?_); rintro e w5 ⟨rfl, hb⟩))
          refine hK _ _ ?_ (fun h => by cases h)
          intro s hs
          cases hs
          exact ⟨hB.trans (hb.mono hB.size), c0, c1, c2, c3, c4, c5, c6, c7, c8, c9, (fun h k => (c10 h k).keep hb), c11, c12, c13, c14, c15, c16, c17, c18, c19, c20, c21, c22, (fun _ h => by cases h), (fun _ => rfl), c25, c26, c27, c28, c29, c30, c31, c32, c33⟩
        case s25r3 =>
          rintro L u W ⟨hB, c0, c1, c2, c3, c4, c5, c6, c7, c8, c9, c10, c11, c12, c13, c14, c15, c16, c17, c18, c19, c20, c21, c22, c23, c24, c25, c26, c27, c28, c29, c30, c31, c32, c33⟩ hf hd K hK
          dsimp only at hK
          have hd20 : L 20 = true := (by first | (refine hd ⟨20, .data⟩ ?_ rfl; simp; done) | (refine hd ⟨20, .guard⟩ ?_ rfl; simp; done) | (refine hd ⟨20, .phase⟩ ?_ rfl; simp; done) | (refine hd ⟨20, .chain⟩ ?_ rfl; simp; done))
          have e20 := c20 hd20
          rw [e20] at hK
          have t0 := keepc hB x0
          have t1 := keepc hB x1
          have t2 := keepc hB x2
          clear hd20
          clear hd
          go_simp
          refine hK _ _ ?_ (fun h => by cases h)
          intro s hs
          cases hs
          exact ⟨hB, c0, c1, c2, c3, c4, c5, c6, c7, c8, c9, c10, c11, c12, c13, c14, c15, c16, c17, c18, c19, c20, c21, c22, c23, c24, (fun _ => rfl), c26, c27, c28, c29, c30, c31, c32, c33⟩
        case s26r3 =>
          rintro L u W ⟨hB, c0, c1, c2, c3, c4, c5, c6, c7, c8, c9, c10, c11, c12, c13, c14, c15, c16, c17, c18, c19, c20, c21, c22, c23, c24, c25, c26, c27, c28, c29, c30, c31, c32, c33⟩ hf hd K hK
          dsimp only at hK
          have hd20 : L 20 = true := (by first | (refine hd ⟨20, .data⟩ ?_ rfl; simp; done) | (refine hd ⟨20, .guard⟩ ?_ rfl; simp; done) | (refine hd ⟨20, .phase⟩ ?_ rfl; simp; done) | (refine hd ⟨20, .chain⟩ ?_ rfl; simp; done))
          have hd25 : L 25 = true := (by first | (refine hd ⟨25, .data⟩ ?_ rfl; simp; done) | (refine hd ⟨25, .guard⟩ ?_ rfl; simp; done) | (refine hd ⟨25, .phase⟩ ?_ rfl; simp; done) | (refine hd ⟨25, .chain⟩ ?_ rfl; simp; done))
          have e20 := c20 hd20
          rw [e20] at hK
          have e25 := c25 hd25
          rw [e25] at hK
          clear hd20
          clear hd25
          clear hd
          go_simp
          go_wp2_with (go_at_call 28; ((with_reducible refine (RR.out _).mono ?_); rintro e w5 ⟨rfl, hb⟩))
          refine hK _ _ ?_ (fun h => by cases h)
          intro s hs
          cases hs
          exact ⟨hB.trans (hb.mono hB.size), c0, c1, c2, c3, c4, c5, c6, c7, c8, c9, (fun h k => (c10 h k).keep hb), c11, c12, c13, c14, c15, c16, c17, c18, c19, c20, c21, c22, (fun h k => (c23 h k).keep hb), c24, c25, (fun _ => rfl), c27, c28, c29, c30, c31, c32, c33⟩
        case s27r3 =>
          rintro L u W ⟨hB, c0, c1, c2, c3, c4, c5, c6, c7, c8, c9, c10, c11, c12, c13, c14, c15, c16, c17, c18, c19, c20, c21, c22, c23, c24, c25, c26, c27, c28, c29, c30, c31, c32, c33⟩ hf hd K hK
          dsimp only at hK
          have hd20 : L 20 = true := (by first | (refine hd ⟨20, .data⟩ ?_ rfl; simp; done) | (refine hd ⟨20, .guard⟩ ?_ rfl; simp; done) | (refine hd ⟨20, .phase⟩ ?_ rfl; simp; done) | (refine hd ⟨20, .chain⟩ ?_ rfl; simp; done))
          have hd26 : L 26 = true := (by first | (refine hd ⟨26, .data⟩ ?_ rfl; simp; done) | (refine hd ⟨26, .guard⟩ ?_ rfl; simp; done) | (refine hd ⟨26, .phase⟩ ?_ rfl; simp; done) | (refine hd ⟨26, .chain⟩ ?_ rfl; simp; done))
          have e20 := c20 hd20
          rw [e20] at hK
          have e26 := c26 hd26
          rw [e26] at hK
          clear hd20
          clear hd26
          clear hd
          go_simp
          refine hK _ _ ?_ (fun h => by cases h)
          intro s hs
          cases hs
          exact ⟨hB, c0, c1, c2, c3, c4, c5, c6, c7, c8, c9, c10, c11, c12, c13, c14, c15, c16, c17, c18, c19, c20, c21, c22, c23, c24, c25, c26, (fun _ => rfl), c28, c29, c30, c31, c32, c33⟩
        case s28r3 =>
          rintro L u W ⟨hB, c0, c1, c2, c3, c4, c5, c6, c7, c8, c9, c10, c11, c12, c13, c14, c15, c16, c17, c18, c19, c20, c21, c22, c23, c24, c25, c26, c27, c28, c29, c30, c31, c32, c33⟩ hf hd K hK
          dsimp only at hK
          have hd27 : L 27 = true := (by first | (refine hd ⟨27, .data⟩ ?_ rfl; simp; done) | (refine hd ⟨27, .guard⟩ ?_ rfl; simp; done) | (refine hd ⟨27, .phase⟩ ?_ rfl; simp; done) | (refine hd ⟨27, .chain⟩ ?_ rfl; simp; done))
          have e27 := c27 hd27
          rw [e27] at hK
          clear hd27
          clear hd
          go_simp
          refine hK _ _ ?_ (fun h => by cases h)
          intro s hs
          cases hs
          exact ⟨hB, c0, c1, c2, c3, c4, c5, c6, c7, c8, c9, c10, c11, c12, c13, c14, c15, c16, c17, c18, c19, c20, c21, c22, c23, c24, c25, c26, c27, (fun _ => rfl), c29, c30, c31, c32, c33⟩
        case s29r3 =>
          rintro L u W ⟨hB, c0, c1, c2, c3, c4, c5, c6, c7, c8, c9, c10, c11, c12, c13, c14, c15, c16, c17, c18, c19, c20, c21, c22, c23, c24, c25, c26, c27, c28, c29, c30, c31, c32, c33⟩ hf hd K hK
          dsimp only at hK
          have hd27 : L 27 = true := (by first | (refine hd ⟨27, .data⟩ ?_ rfl; simp; done) | (refine hd ⟨27, .guard⟩ ?_ rfl; simp; done) | (refine hd ⟨27, .phase⟩ ?_ rfl; simp; done) | (refine hd ⟨27, .chain⟩ ?_ rfl; simp; done))
          have e27 := c27 hd27
          rw [e27] at hK
          clear hd27
          clear hd
          go_simp
          refine hK _ _ ?_ (fun h => by cases h)
          intro s hs
          cases hs
          exact ⟨hB, c0, c1, c2, c3, c4, c5, c6, c7, c8, c9, c10, c11, c12, c13, c14, c15, c16, c17, c18, c19, c20, c21, c22, c23, c24, c25, c26, c27, c28, (fun _ => rfl), c30, c31, c32, c33⟩
        case s30r3 =>
          rintro L u W ⟨hB, c0, c1, c2, c3, c4, c5, c6, c7, c8, c9, c10, c11, c12, c13, c14, c15, c16, c17, c18, c19, c20, c21, c22, c23, c24, c25, c26, c27, c28, c29, c30, c31, c32, c33⟩ hf hd K hK
          dsimp only at hK
          have hd20 : L 20 = true := (by first | (refine hd ⟨20, .data⟩ ?_ rfl; simp; done) | (refine hd ⟨20, .guard⟩ ?_ rfl; simp; done) | (refine hd ⟨20, .phase⟩ ?_ rfl; simp; done) | (refine hd ⟨20, .chain⟩ ?_ rfl; simp; done))
          have hd27 : L 27 = true := (by first | (refine hd ⟨27, .data⟩ ?_ rfl; simp; done) | (refine hd ⟨27, .guard⟩ ?_ rfl; simp; done) | (refine hd ⟨27, .phase⟩ ?_ rfl; simp; done) | (refine hd ⟨27, .chain⟩ ?_ rfl; simp; done))
          have hd29 : L 29 = true := (by first | (refine hd ⟨29, .data⟩ ?_ rfl; simp; done) | (refine hd ⟨29, .guard⟩ ?_ rfl; simp; done) | (refine hd ⟨29, .phase⟩ ?_ rfl; simp; done) | (refine hd ⟨29, .chain⟩ ?_ rfl; simp; done))
          have e20 := c20 hd20
          rw [e20] at hK
          have e27 := c27 hd27
          rw [e27] at hK
          have e29 := c29 hd29
          rw [e29] at hK
          clear hd20
          clear hd27
          clear hd29
          clear hd
          go_simp
          refine hK _ _ ?_ (fun h => by cases h)
          intro s hs
          cases hs
          exact ⟨hB, c0, c1, c2, c3, c4, c5, c6, c7, c8, c9, c10, c11, c12, c13, c14, c15, c16, c17, c18, c19, c20, c21, c22, c23, c24, c25, c26, c27, c28, c29, (fun _ => rfl), c31, c32, c33⟩
        case s31r3 =>
          rintro L u W ⟨hB, c0, c1, c2, c3, c4, c5, c6, c7, c8, c9, c10, c11, c12, c13, c14, c15, c16, c17, c18, c19, c20, c21, c22, c23, c24, c25, c26, c27, c28, c29, c30, c31, c32, c33⟩ hf hd K hK
          dsimp only at hK
          have hd20 : L 20 = true := (by first | (refine hd ⟨20, .data⟩ ?_ rfl; simp; done) | (refine hd ⟨20, .guard⟩ ?_ rfl; simp; done) | (refine hd ⟨20, .phase⟩ ?_ rfl; simp; done) | (refine hd ⟨20, .chain⟩ ?_ rfl; simp; done))
          have hd24 : L 24 = true := (by first | (refine hd ⟨24, .data⟩ ?_ rfl; simp; done) | (refine hd ⟨24, .guard⟩ ?_ rfl; simp; done) | (refine hd ⟨24, .phase⟩ ?_ rfl; simp; done) | (refine hd ⟨24, .chain⟩ ?_ rfl; simp; done))
          have hd30 : L 30 = true := (by first | (refine hd ⟨30, .data⟩ ?_ rfl; simp; done) | (refine hd ⟨30, .guard⟩ ?_ rfl; simp; done) | (refine hd ⟨30, .phase⟩ ?_ rfl; simp; done) | (refine hd ⟨30, .chain⟩ ?_ rfl; simp; done))
          have e20 := c20 hd20
          rw [e20] at hK
          have e24 := c24 hd24
          rw [e24] at hK
          have e30 := c30 hd30
          rw [e30] at hK
          clear hd20
          clear hd24
          clear hd30
          clear hd
          go_simp
          refine hK _ _ ?_ (fun h => by cases h)
          intro s hs
          cases hs
          exact ⟨hB, c0, c1, c2, c3, c4, c5, c6, c7, c8, c9, c10, c11, c12, c13, c14, c15, c16, c17, c18, c19, c20, c21, c22, c23, c24, c25, c26, c27, c28, c29, c30, (fun _ => rfl), c32, c33⟩
        case s32r3 =>
          rintro L u W ⟨hB, c0, c1, c2, c3, c4, c5, c6, c7, c8, c9, c10, c11, c12, c13, c14, c15, c16, c17, c18, c19, c20, c21, c22, c23, c24, c25, c26, c27, c28, c29, c30, c31, c32, c33⟩ hf hd K hK
          dsimp only at hK
          have hd20 : L 20 = true := (by first | (refine hd ⟨20, .data⟩ ?_ rfl; simp; done) | (refine hd ⟨20, .guard⟩ ?_ rfl; simp; done) | (refine hd ⟨20, .phase⟩ ?_ rfl; simp; done) | (refine hd ⟨20, .chain⟩ ?_ rfl; simp; done))
          have hd31 : L 31 = true := (by first | (refine hd ⟨31, .data⟩ ?_ rfl; simp; done) | (refine hd ⟨31, .guard⟩ ?_ rfl; simp; done) | (refine hd ⟨31, .phase⟩ ?_ rfl; simp; done) | (refine hd ⟨31, .chain⟩ ?_ rfl; simp; done))
          have e20 := c20 hd20
          rw [e20] at hK
          have e31 := c31 hd31
          rw [e31] at hK
          clear hd20
          clear hd31
          clear hd
          go_simp
          refine hK _ _ ?_ (fun h => by cases h)
          intro s hs
          cases hs
          exact ⟨hB, c0, c1, c2, c3, c4, c5, c6, c7, c8, c9, c10, c11, c12, c13, c14, c15, c16, c17, c18, c19, c20, c21, c22, c23, c24, c25, c26, c27, c28, c29, c30, c31, (fun _ => rfl), c33⟩
        case s33r3 =>
          rintro L u W ⟨hB, c0, c1, c2, c3, c4, c5, c6, c7, c8, c9, c10, c11, c12, c13, c14, c15, c16, c17, c18, c19, c20, c21, c22, c23, c24, c25, c26, c27, c28, c29, c30, c31, c32, c33⟩ hf hd K hK
          dsimp only at hK
          have hd32 : L 32 = true := (by first | (refine hd ⟨32, .data⟩ ?_ rfl; simp; done) | (refine hd ⟨32, .guard⟩ ?_ rfl; simp; done) | (refine hd ⟨32, .phase⟩ ?_ rfl; simp; done) | (refine hd ⟨32, .chain⟩ ?_ rfl; simp; done))
          have e32 := c32 hd32
          rw [e32] at hK
          clear hd32
          clear hd
          go_simp
          refine hK _ _ ?_ (fun h => by cases h)
          intro s hs
          cases hs
          exact ⟨hB, c0, c1, c2, c3, c4, c5, c6, c7, c8, c9, c10, c11, c12, c13, c14, c15, c16, c17, c18, c19, c20, c21, c22, c23, c24, c25, c26, c27, c28, c29, c30, c31, c32, (fun _ => rfl)⟩
      case finr3 =>
        rintro L u W hL ⟨hB, c0, c1, c2, c3, c4, c5, c6, c7, c8, c9, c10, c11, c12, c13, c14, c15, c16, c17, c18, c19, c20, c21, c22, c23, c24, c25, c26, c27, c28, c29, c30, c31, c32, c33⟩
        have e0 := c0 (hL 0 (by decide))
        have e1 := c1 (hL 1 (by decide))
        have e2 := c2 (hL 2 (by decide))
        have e3 := c3 (hL 3 (by decide))
        have e4 := c4 (hL 4 (by decide))
        have e5 := c5 (hL 5 (by decide))
        have e6 := c6 (hL 6 (by decide))
        have e7 := c7 (hL 7 (by decide))
        have e8 := c8 (hL 8 (by decide))
        have e9 := c9 (hL 9 (by decide))
        have e11 := c11 (hL 11 (by decide))
        have e12 := c12 (hL 12 (by decide))
        have e13 := c13 (hL 13 (by decide))
        have e14 := c14 (hL 14 (by decide))
        have e15 := c15 (hL 15 (by decide))
        have e16 := c16 (hL 16 (by decide))
        have e17 := c17 (hL 17 (by decide))
        have e18 := c18 (hL 18 (by decide))
        have e19 := c19 (hL 19 (by decide))
        have e20 := c20 (hL 20 (by decide))
        have e21 := c21 (hL 21 (by decide))
        have e22 := c22 (hL 22 (by decide))
        have e24 := c24 (hL 24 (by decide))
        have e25 := c25 (hL 25 (by decide))
        have e26 := c26 (hL 26 (by decide))
        have e27 := c27 (hL 27 (by decide))
        have e28 := c28 (hL 28 (by decide))
        have e29 := c29 (hL 29 (by decide))
        have e30 := c30 (hL 30 (by decide))
        have e31 := c31 (hL 31 (by decide))
        have e32 := c32 (hL 32 (by decide))
        have e33 := c33 (hL 33 (by decide))
        clear hL c0 c1 c2 c3 c4 c5 c6 c7 c8 c9 c10 c11 c12 c13 c14 c15 c16 c17 c18 c19 c20 c21 c22 c23 c24 c25 c26 c27 c28 c29 c30 c31 c32 c33
        try simp only [e0, e1, e2, e3, e4, e5, e6, e7, e8, e9, e11, e12, e13, e14, e15, e16, e17, e18, e19, e20, e21, e22, e24, e25, e26, e27, e28, e29, e30, e31, e32, e33]
        clear e0 e1 e2 e3 e4 e5 e6 e7 e8 e9 e11 e12 e13 e14 e15 e16 e17 e18 e19 e20 e21 e22 e24 e25 e26 e27 e28 e29 e30 e31 e32 e33
        go_wp2
        go_ret
        exact ⟨rfl, HB.out.trans (hB.mono HB.out.size)⟩
    | true =>
      refine wp_region_rel (by kernel_rfl) [147, 148, 149, 150, 151, 152, 153, 154, 155, 156, 157, 158, 159, 160, 161, 162, 163, 164, 165, 166, 167, 168, 169, 170, 171, 172, 173, 174, 175, 176, 177, 178, 179, 10] ?Fr4 ?hFr4
        (fun L u W => Below v9.heap.size v9 W ∧ (L 0 = true → u 147 = .bool true) ∧ (L 1 = true → u 148 = .bool true) ∧ (L 2 = true → u 149 = .bool true) ∧ (L 3 = true → u 150 = .bool true) ∧ (L 4 = true → u 151 = .bool true) ∧ (L 5 = true → u 152 = .bool true) ∧ (L 6 = true → u 153 = .bool true) ∧ (L 7 = true → u 154 = .bool true) ∧ (L 8 = true → u 155 = .agg #[.int .i64 j1, .int .i64 j2]) ∧ (L 9 = true → u 156 = .agg #[.int .i64 o1, .int .i64 o2]) ∧ (L 10 = true → L 11 = false → RowAt W (u 157) 2 25 #[.int .i64 j1, .int .i64 j2, .int .i64 o1, .int .i64 o2]) ∧ (L 11 = true → u 158 = .bool (true && Q)) ∧ (L 12 = true → u 159 = .agg #[.int .i64 j1, .int .i64 j2]) ∧ (L 13 = true → u 160 = .bool true) ∧ (L 14 = true → u 161 = .bool true) ∧ (L 15 = true → u 162 = .agg #[.int .i64 o1, .int .i64 o2]) ∧ (L 16 = true → u 163 = .bool Q) ∧ (L 17 = true → u 164 = .bool Q) ∧ (L 18 = true → u 165 = .bool true) ∧ (L 19 = true → u 166 = .bool true) ∧ (L 20 = true → u 167 = .bool true) ∧ (L 21 = true → u 168 = .agg #[.int .i64 a1, .int .i64 a2, .int .i64 a3]) ∧ (L 22 = true → u 169 = .agg #[.int .i64 b1, .int .i64 b2, .int .i64 b3]) ∧ (L 23 = true → L 24 = false → RowAt W (u 170) 2 23 #[.int .i64 a1, .int .i64 a2, .int .i64 a3, .int .i64 b1, .int .i64 b2, .int .i64 b3]) ∧ (L 24 = true → u 171 = .bool (true && S)) ∧ (L 25 = true → u 172 = .agg #[.int .i64 a1, .int .i64 a2, .int .i64 a3]) ∧ (L 26 = true → u 173 = .bool true) ∧ (L 27 = true → u 174 = .bool true) ∧ (L 28 = true → u 175 = .agg #[.int .i64 b1, .int .i64 b2, .int .i64 b3]) ∧ (L 29 = true → u 176 = .bool S) ∧ (L 30 = true → u 177 = .bool S) ∧ (L 31 = true → u 178 = .bool true) ∧ (L 32 = true → u 179 = .bool true) ∧ (L 33 = true → u 10 = .bool true)) (by kernel_rfl) (by kernel_rfl) 34 rfl ?h0r4 ?stepr4 ?finr4
      case hFr4 => intro u; simp only [putAll, Act.put, List.setIfInBounds_toArray, List.set]; exact rfl
      case h0r4 => intro L u hL; exact ⟨(Below.refl _ _).drew, (fun h => by simp [hL] at h), (fun h => by simp [hL] at h), (fun h => by simp [hL] at h), (fun h => by simp [hL] at h), (fun h => by simp [hL] at h), (fun h => by simp [hL] at h), (fun h => by simp [hL] at h), (fun h => by simp [hL] at h), (fun h => by simp [hL] at h), (fun h => by simp [hL] at h), (fun h => by simp [hL] at h), (fun h => by simp [hL] at h), (fun h => by simp [hL] at h), (fun h => by simp [hL] at h), (fun h => by simp [hL] at h), (fun h => by simp [hL] at h), (fun h => by simp [hL] at h), (fun h => by simp [hL] at h), (fun h => by simp [hL] at h), (fun h => by simp [hL] at h), (fun h => by simp [hL] at h), (fun h => by simp [hL] at h), (fun h => by simp [hL] at h), (fun h => by simp [hL] at h), (fun h => by simp [hL] at h), (fun h => by simp [hL] at h), (fun h => by simp [hL] at h), (fun h => by simp [hL] at h), (fun h => by simp [hL] at h), (fun h => by simp [hL] at h), (fun h => by simp [hL] at h), (fun h => by simp [hL] at h), (fun h => by simp [hL] at h), (fun h => by simp [hL] at h)⟩
      case stepr4 =>
        refine ops_all (ops_cons ?s0r4 (ops_cons ?s1r4 (ops_cons ?s2r4 (ops_cons ?s3r4 (ops_cons ?s4r4 (ops_cons ?s5r4 (ops_cons ?s6r4 (ops_cons ?s7r4 (ops_cons ?s8r4 (ops_cons ?s9r4 (ops_cons ?s10r4 (ops_cons ?s11r4 (ops_cons ?s12r4 (ops_cons ?s13r4 (ops_cons ?s14r4 (ops_cons ?s15r4 (ops_cons ?s16r4 (ops_cons ?s17r4 (ops_cons ?s18r4 (ops_cons ?s19r4 (ops_cons ?s20r4 (ops_cons ?s21r4 (ops_cons ?s22r4 (ops_cons ?s23r4 (ops_cons ?s24r4 (ops_cons ?s25r4 (ops_cons ?s26r4 (ops_cons ?s27r4 (ops_cons ?s28r4 (ops_cons ?s29r4 (ops_cons ?s30r4 (ops_cons ?s31r4 (ops_cons ?s32r4 (ops_cons ?s33r4 (ops_nil)))))))))))))))))))))))))))))))))))
        case s0r4 =>
          rintro L u W ⟨hB, c0, c1, c2, c3, c4, c5, c6, c7, c8, c9, c10, c11, c12, c13, c14, c15, c16, c17, c18, c19, c20, c21, c22, c23, c24, c25, c26, c27, c28, c29, c30, c31, c32, c33⟩ hf hd K hK
          dsimp only at hK
          clear hd
          go_simp
          go_wp2_with (go_at_call 24; ((with_reducible refine (crossed_any _).mono ?_); rintro e w5 ⟨rfl, hb⟩))
          refine hK _ _ ?_ (fun h => by cases h)
          intro s hs
          cases hs
          exact ⟨hB.trans (hb.mono hB.size), (fun _ => rfl), c1, c2, c3, c4, c5, c6, c7, c8, c9, (fun h k => (c10 h k).keep hb), c11, c12, c13, c14, c15, c16, c17, c18, c19, c20, c21, c22, (fun h k => (c23 h k).keep hb), c24, c25, c26, c27, c28, c29, c30, c31, c32, c33⟩
        case s1r4 =>
          rintro L u W ⟨hB, c0, c1, c2, c3, c4, c5, c6, c7, c8, c9, c10, c11, c12, c13, c14, c15, c16, c17, c18, c19, c20, c21, c22, c23, c24, c25, c26, c27, c28, c29, c30, c31, c32, c33⟩ hf hd K hK
          dsimp only at hK
          have hd0 : L 0 = true := (by first | (refine hd ⟨0, .data⟩ ?_ rfl; simp; done) | (refine hd ⟨0, .guard⟩ ?_ rfl; simp; done) | (refine hd ⟨0, .phase⟩ ?_ rfl; simp; done) | (refine hd ⟨0, .chain⟩ ?_ rfl; simp; done))
          have e0 := c0 hd0
          rw [e0] at hK
          clear hd0
          clear hd
          go_simp
          refine hK _ _ ?_ (fun h => by cases h)
          intro s hs
          cases hs
          exact ⟨hB, c0, (fun _ => rfl), c2, c3, c4, c5, c6, c7, c8, c9, c10, c11, c12, c13, c14, c15, c16, c17, c18, c19, c20, c21, c22, c23, c24, c25, c26, c27, c28, c29, c30, c31, c32, c33⟩
        case s2r4 =>
          rintro L u W ⟨hB, c0, c1, c2, c3, c4, c5, c6, c7, c8, c9, c10, c11, c12, c13, c14, c15, c16, c17, c18, c19, c20, c21, c22, c23, c24, c25, c26, c27, c28, c29, c30, c31, c32, c33⟩ hf hd K hK
          dsimp only at hK
          have hd1 : L 1 = true := (by first | (refine hd ⟨1, .data⟩ ?_ rfl; simp; done) | (refine hd ⟨1, .guard⟩ ?_ rfl; simp; done) | (refine hd ⟨1, .phase⟩ ?_ rfl; simp; done) | (refine hd ⟨1, .chain⟩ ?_ rfl; simp; done))
          have e1 := c1 hd1
          rw [e1] at hK
          clear hd1
          clear hd
          go_simp
          refine hK _ _ ?_ (fun h => by cases h)
          intro s hs
          cases hs
          exact ⟨hB, c0, c1, (fun _ => rfl), c3, c4, c5, c6, c7, c8, c9, c10, c11, c12, c13, c14, c15, c16, c17, c18, c19, c20, c21, c22, c23, c24, c25, c26, c27, c28, c29, c30, c31, c32, c33⟩
        case s3r4 =>
          rintro L u W ⟨hB, c0, c1, c2, c3, c4, c5, c6, c7, c8, c9, c10, c11, c12, c13, c14, c15, c16, c17, c18, c19, c20, c21, c22, c23, c24, c25, c26, c27, c28, c29, c30, c31, c32, c33⟩ hf hd K hK
          dsimp only at hK
          have hd1 : L 1 = true := (by first | (refine hd ⟨1, .data⟩ ?_ rfl; simp; done) | (refine hd ⟨1, .guard⟩ ?_ rfl; simp; done) | (refine hd ⟨1, .phase⟩ ?_ rfl; simp; done) | (refine hd ⟨1, .chain⟩ ?_ rfl; simp; done))
          have hd2 : L 2 = true := (by first | (refine hd ⟨2, .data⟩ ?_ rfl; simp; done) | (refine hd ⟨2, .guard⟩ ?_ rfl; simp; done) | (refine hd ⟨2, .phase⟩ ?_ rfl; simp; done) | (refine hd ⟨2, .chain⟩ ?_ rfl; simp; done))
          have e1 := c1 hd1
          rw [e1] at hK
          have e2 := c2 hd2
          rw [e2] at hK
          clear hd1
          clear hd2
          clear hd
          go_simp
          refine hK _ _ ?_ (fun h => by cases h)
          intro s hs
          cases hs
          exact ⟨hB, c0, c1, c2, (fun _ => rfl), c4, c5, c6, c7, c8, c9, c10, c11, c12, c13, c14, c15, c16, c17, c18, c19, c20, c21, c22, c23, c24, c25, c26, c27, c28, c29, c30, c31, c32, c33⟩
        case s4r4 =>
          rintro L u W ⟨hB, c0, c1, c2, c3, c4, c5, c6, c7, c8, c9, c10, c11, c12, c13, c14, c15, c16, c17, c18, c19, c20, c21, c22, c23, c24, c25, c26, c27, c28, c29, c30, c31, c32, c33⟩ hf hd K hK
          dsimp only at hK
          have hd3 : L 3 = true := (by first | (refine hd ⟨3, .data⟩ ?_ rfl; simp; done) | (refine hd ⟨3, .guard⟩ ?_ rfl; simp; done) | (refine hd ⟨3, .phase⟩ ?_ rfl; simp; done) | (refine hd ⟨3, .chain⟩ ?_ rfl; simp; done))
          have e3 := c3 hd3
          rw [e3] at hK
          clear hd3
          clear hd
          go_simp
          refine hK _ _ ?_ (fun h => by cases h)
          intro s hs
          cases hs
          exact ⟨hB, c0, c1, c2, c3, (fun _ => rfl), c5, c6, c7, c8, c9, c10, c11, c12, c13, c14, c15, c16, c17, c18, c19, c20, c21, c22, c23, c24, c25, c26, c27, c28, c29, c30, c31, c32, c33⟩
        case s5r4 =>
          rintro L u W ⟨hB, c0, c1, c2, c3, c4, c5, c6, c7, c8, c9, c10, c11, c12, c13, c14, c15, c16, c17, c18, c19, c20, c21, c22, c23, c24, c25, c26, c27, c28, c29, c30, c31, c32, c33⟩ hf hd K hK
          dsimp only at hK
          have hd4 : L 4 = true := (by first | (refine hd ⟨4, .data⟩ ?_ rfl; simp; done) | (refine hd ⟨4, .guard⟩ ?_ rfl; simp; done) | (refine hd ⟨4, .phase⟩ ?_ rfl; simp; done) | (refine hd ⟨4, .chain⟩ ?_ rfl; simp; done))
          have e4 := c4 hd4
          rw [e4] at hK
          clear hd4
          clear hd
          go_simp
          refine hK _ _ ?_ (fun h => by cases h)
          intro s hs
          cases hs
          exact ⟨hB, c0, c1, c2, c3, c4, (fun _ => rfl), c6, c7, c8, c9, c10, c11, c12, c13, c14, c15, c16, c17, c18, c19, c20, c21, c22, c23, c24, c25, c26, c27, c28, c29, c30, c31, c32, c33⟩
        case s6r4 =>
          rintro L u W ⟨hB, c0, c1, c2, c3, c4, c5, c6, c7, c8, c9, c10, c11, c12, c13, c14, c15, c16, c17, c18, c19, c20, c21, c22, c23, c24, c25, c26, c27, c28, c29, c30, c31, c32, c33⟩ hf hd K hK
          dsimp only at hK
          have hd4 : L 4 = true := (by first | (refine hd ⟨4, .data⟩ ?_ rfl; simp; done) | (refine hd ⟨4, .guard⟩ ?_ rfl; simp; done) | (refine hd ⟨4, .phase⟩ ?_ rfl; simp; done) | (refine hd ⟨4, .chain⟩ ?_ rfl; simp; done))
          have hd5 : L 5 = true := (by first | (refine hd ⟨5, .data⟩ ?_ rfl; simp; done) | (refine hd ⟨5, .guard⟩ ?_ rfl; simp; done) | (refine hd ⟨5, .phase⟩ ?_ rfl; simp; done) | (refine hd ⟨5, .chain⟩ ?_ rfl; simp; done))
          have e4 := c4 hd4
          rw [e4] at hK
          have e5 := c5 hd5
          rw [e5] at hK
          clear hd4
          clear hd5
          clear hd
          go_simp
          refine hK _ _ ?_ (fun h => by cases h)
          intro s hs
          cases hs
          exact ⟨hB, c0, c1, c2, c3, c4, c5, (fun _ => rfl), c7, c8, c9, c10, c11, c12, c13, c14, c15, c16, c17, c18, c19, c20, c21, c22, c23, c24, c25, c26, c27, c28, c29, c30, c31, c32, c33⟩
        case s7r4 =>
          rintro L u W ⟨hB, c0, c1, c2, c3, c4, c5, c6, c7, c8, c9, c10, c11, c12, c13, c14, c15, c16, c17, c18, c19, c20, c21, c22, c23, c24, c25, c26, c27, c28, c29, c30, c31, c32, c33⟩ hf hd K hK
          dsimp only at hK
          have hd6 : L 6 = true := (by first | (refine hd ⟨6, .data⟩ ?_ rfl; simp; done) | (refine hd ⟨6, .guard⟩ ?_ rfl; simp; done) | (refine hd ⟨6, .phase⟩ ?_ rfl; simp; done) | (refine hd ⟨6, .chain⟩ ?_ rfl; simp; done))
          have e6 := c6 hd6
          rw [e6] at hK
          clear hd6
          clear hd
          go_simp
          refine hK _ _ ?_ (fun h => by cases h)
          intro s hs
          cases hs
          exact ⟨hB, c0, c1, c2, c3, c4, c5, c6, (fun _ => rfl), c8, c9, c10, c11, c12, c13, c14, c15, c16, c17, c18, c19, c20, c21, c22, c23, c24, c25, c26, c27, c28, c29, c30, c31, c32, c33⟩
        case s8r4 =>
          rintro L u W ⟨hB, c0, c1, c2, c3, c4, c5, c6, c7, c8, c9, c10, c11, c12, c13, c14, c15, c16, c17, c18, c19, c20, c21, c22, c23, c24, c25, c26, c27, c28, c29, c30, c31, c32, c33⟩ hf hd K hK
          dsimp only at hK
          have hd7 : L 7 = true := (by first | (refine hd ⟨7, .data⟩ ?_ rfl; simp; done) | (refine hd ⟨7, .guard⟩ ?_ rfl; simp; done) | (refine hd ⟨7, .phase⟩ ?_ rfl; simp; done) | (refine hd ⟨7, .chain⟩ ?_ rfl; simp; done))
          have e7 := c7 hd7
          rw [e7] at hK
          have t0 := keepc hB z0
          have t1 := keepc hB z1
          clear hd7
          clear hd
          go_simp
          refine hK _ _ ?_ (fun h => by cases h)
          intro s hs
          cases hs
          exact ⟨hB, c0, c1, c2, c3, c4, c5, c6, c7, (fun _ => rfl), c9, c10, c11, c12, c13, c14, c15, c16, c17, c18, c19, c20, c21, c22, c23, c24, c25, c26, c27, c28, c29, c30, c31, c32, c33⟩
        case s9r4 =>
          rintro L u W ⟨hB, c0, c1, c2, c3, c4, c5, c6, c7, c8, c9, c10, c11, c12, c13, c14, c15, c16, c17, c18, c19, c20, c21, c22, c23, c24, c25, c26, c27, c28, c29, c30, c31, c32, c33⟩ hf hd K hK
          dsimp only at hK
          have hd7 : L 7 = true := (by first | (refine hd ⟨7, .data⟩ ?_ rfl; simp; done) | (refine hd ⟨7, .guard⟩ ?_ rfl; simp; done) | (refine hd ⟨7, .phase⟩ ?_ rfl; simp; done) | (refine hd ⟨7, .chain⟩ ?_ rfl; simp; done))
          have e7 := c7 hd7
          rw [e7] at hK
          have t0 := keepc hB u0
          have t1 := keepc hB u1
          clear hd7
          clear hd
          go_simp
          refine hK _ _ ?_ (fun h => by cases h)
          intro s hs
          cases hs
          exact ⟨hB, c0, c1, c2, c3, c4, c5, c6, c7, c8, (fun _ => rfl), c10, c11, c12, c13, c14, c15, c16, c17, c18, c19, c20, c21, c22, c23, c24, c25, c26, c27, c28, c29, c30, c31, c32, c33⟩
        case s10r4 =>
          rintro L u W ⟨hB, c0, c1, c2, c3, c4, c5, c6, c7, c8, c9, c10, c11, c12, c13, c14, c15, c16, c17, c18, c19, c20, c21, c22, c23, c24, c25, c26, c27, c28, c29, c30, c31, c32, c33⟩ hf hd K hK
          dsimp only at hK
          have hd7 : L 7 = true := (by first | (refine hd ⟨7, .data⟩ ?_ rfl; simp; done) | (refine hd ⟨7, .guard⟩ ?_ rfl; simp; done) | (refine hd ⟨7, .phase⟩ ?_ rfl; simp; done) | (refine hd ⟨7, .chain⟩ ?_ rfl; simp; done))
          have hd8 : L 8 = true := (by first | (refine hd ⟨8, .data⟩ ?_ rfl; simp; done) | (refine hd ⟨8, .guard⟩ ?_ rfl; simp; done) | (refine hd ⟨8, .phase⟩ ?_ rfl; simp; done) | (refine hd ⟨8, .chain⟩ ?_ rfl; simp; done))
          have hd9 : L 9 = true := (by first | (refine hd ⟨9, .data⟩ ?_ rfl; simp; done) | (refine hd ⟨9, .guard⟩ ?_ rfl; simp; done) | (refine hd ⟨9, .phase⟩ ?_ rfl; simp; done) | (refine hd ⟨9, .chain⟩ ?_ rfl; simp; done))
          have e7 := c7 hd7
          rw [e7] at hK
          have e8 := c8 hd8
          rw [e8] at hK
          have e9 := c9 hd9
          rw [e9] at hK
          clear hd7
          clear hd8
          clear hd9
          clear hd
          go_simp
          have hb : Below W.heap.size W (W.alloc (.cells #[.int .i64 j1, .int .i64 j2, .int .i64 o1, .int .i64 o2] 25)) := (Below.refl _ W).alloc (Nat.le_refl _) _
          refine hK _ _ ?_ (fun h => by cases h)
          intro s hs
          cases hs
          exact ⟨hB.trans (hb.mono hB.size), c0, c1, c2, c3, c4, c5, c6, c7, c8, c9, (fun _ _ => ⟨_, rfl, Lok.new _ _ _⟩), c11, c12, c13, c14, c15, c16, c17, c18, c19, c20, c21, c22, (fun h k => (c23 h k).keep hb), c24, c25, c26, c27, c28, c29, c30, c31, c32, c33⟩
        case s11r4 =>
          rintro L u W ⟨hB, c0, c1, c2, c3, c4, c5, c6, c7, c8, c9, c10, c11, c12, c13, c14, c15, c16, c17, c18, c19, c20, c21, c22, c23, c24, c25, c26, c27, c28, c29, c30, c31, c32, c33⟩ hf hd K hK
          dsimp only at hK
          have hd7 : L 7 = true := (by first | (refine hd ⟨7, .data⟩ ?_ rfl; simp; done) | (refine hd ⟨7, .guard⟩ ?_ rfl; simp; done) | (refine hd ⟨7, .phase⟩ ?_ rfl; simp; done) | (refine hd ⟨7, .chain⟩ ?_ rfl; simp; done))
          have hd10 : L 10 = true := (by first | (refine hd ⟨10, .data⟩ ?_ rfl; simp; done) | (refine hd ⟨10, .guard⟩ ?_ rfl; simp; done) | (refine hd ⟨10, .phase⟩ ?_ rfl; simp; done) | (refine hd ⟨10, .chain⟩ ?_ rfl; simp; done))
          have e7 := c7 hd7
          rw [e7] at hK
          have e10 := c10 hd10 (by first | exact hf | assumption)
          clear hd7
          clear hd10
          obtain ⟨g, eg, hl⟩ := e10; rw [eg] at hK
          clear hd
          go_simp
          go_wp2_with (go_at_call 25; ((with_reducible refine (V2.out g _ _ hl).mono ?_); rintro e w5 ⟨rfl, hb⟩))
          refine hK _ _ ?_ (fun h => by cases h)
          intro s hs
          cases hs
          exact ⟨hB.trans (hb.mono hB.size), c0, c1, c2, c3, c4, c5, c6, c7, c8, c9, (fun _ h => by cases h), (fun _ => rfl), c12, c13, c14, c15, c16, c17, c18, c19, c20, c21, c22, (fun h k => (c23 h k).keep hb), c24, c25, c26, c27, c28, c29, c30, c31, c32, c33⟩
        case s12r4 =>
          rintro L u W ⟨hB, c0, c1, c2, c3, c4, c5, c6, c7, c8, c9, c10, c11, c12, c13, c14, c15, c16, c17, c18, c19, c20, c21, c22, c23, c24, c25, c26, c27, c28, c29, c30, c31, c32, c33⟩ hf hd K hK
          dsimp only at hK
          have hd7 : L 7 = true := (by first | (refine hd ⟨7, .data⟩ ?_ rfl; simp; done) | (refine hd ⟨7, .guard⟩ ?_ rfl; simp; done) | (refine hd ⟨7, .phase⟩ ?_ rfl; simp; done) | (refine hd ⟨7, .chain⟩ ?_ rfl; simp; done))
          have e7 := c7 hd7
          rw [e7] at hK
          have t0 := keepc hB z0
          have t1 := keepc hB z1
          clear hd7
          clear hd
          go_simp
          refine hK _ _ ?_ (fun h => by cases h)
          intro s hs
          cases hs
          exact ⟨hB, c0, c1, c2, c3, c4, c5, c6, c7, c8, c9, c10, c11, (fun _ => rfl), c13, c14, c15, c16, c17, c18, c19, c20, c21, c22, c23, c24, c25, c26, c27, c28, c29, c30, c31, c32, c33⟩
        case s13r4 =>
          rintro L u W ⟨hB, c0, c1, c2, c3, c4, c5, c6, c7, c8, c9, c10, c11, c12, c13, c14, c15, c16, c17, c18, c19, c20, c21, c22, c23, c24, c25, c26, c27, c28, c29, c30, c31, c32, c33⟩ hf hd K hK
          dsimp only at hK
          have hd7 : L 7 = true := (by first | (refine hd ⟨7, .data⟩ ?_ rfl; simp; done) | (refine hd ⟨7, .guard⟩ ?_ rfl; simp; done) | (refine hd ⟨7, .phase⟩ ?_ rfl; simp; done) | (refine hd ⟨7, .chain⟩ ?_ rfl; simp; done))
          have hd12 : L 12 = true := (by first | (refine hd ⟨12, .data⟩ ?_ rfl; simp; done) | (refine hd ⟨12, .guard⟩ ?_ rfl; simp; done) | (refine hd ⟨12, .phase⟩ ?_ rfl; simp; done) | (refine hd ⟨12, .chain⟩ ?_ rfl; simp; done))
          have e7 := c7 hd7
          rw [e7] at hK
          have e12 := c12 hd12
          rw [e12] at hK
          clear hd7
          clear hd12
          clear hd
          go_simp
          go_wp2_with (go_at_call 26; ((with_reducible refine (RP.out _).mono ?_); rintro e w5 ⟨rfl, hb⟩))
          refine hK _ _ ?_ (fun h => by cases h)
          intro s hs
          cases hs
          exact ⟨hB.trans (hb.mono hB.size), c0, c1, c2, c3, c4, c5, c6, c7, c8, c9, (fun h k => (c10 h k).keep hb), c11, c12, (fun _ => rfl), c14, c15, c16, c17, c18, c19, c20, c21, c22, (fun h k => (c23 h k).keep hb), c24, c25, c26, c27, c28, c29, c30, c31, c32, c33⟩
        case s14r4 =>
          rintro L u W ⟨hB, c0, c1, c2, c3, c4, c5, c6, c7, c8, c9, c10, c11, c12, c13, c14, c15, c16, c17, c18, c19, c20, c21, c22, c23, c24, c25, c26, c27, c28, c29, c30, c31, c32, c33⟩ hf hd K hK
          dsimp only at hK
          have hd7 : L 7 = true := (by first | (refine hd ⟨7, .data⟩ ?_ rfl; simp; done) | (refine hd ⟨7, .guard⟩ ?_ rfl; simp; done) | (refine hd ⟨7, .phase⟩ ?_ rfl; simp; done) | (refine hd ⟨7, .chain⟩ ?_ rfl; simp; done))
          have hd13 : L 13 = true := (by first | (refine hd ⟨13, .data⟩ ?_ rfl; simp; done) | (refine hd ⟨13, .guard⟩ ?_ rfl; simp; done) | (refine hd ⟨13, .phase⟩ ?_ rfl; simp; done) | (refine hd ⟨13, .chain⟩ ?_ rfl; simp; done))
          have e7 := c7 hd7
          rw [e7] at hK
          have e13 := c13 hd13
          rw [e13] at hK
          clear hd7
          clear hd13
          clear hd
          go_simp
          refine hK _ _ ?_ (fun h => by cases h)
          intro s hs
          cases hs
          exact ⟨hB, c0, c1, c2, c3, c4, c5, c6, c7, c8, c9, c10, c11, c12, c13, (fun _ => rfl), c15, c16, c17, c18, c19, c20, c21, c22, c23, c24, c25, c26, c27, c28, c29, c30, c31, c32, c33⟩
        case s15r4 =>
          rintro L u W ⟨hB, c0, c1, c2, c3, c4, c5, c6, c7, c8, c9, c10, c11, c12, c13, c14, c15, c16, c17, c18, c19, c20, c21, c22, c23, c24, c25, c26, c27, c28, c29, c30, c31, c32, c33⟩ hf hd K hK
          dsimp only at hK
          have hd14 : L 14 = true := (by first | (refine hd ⟨14, .data⟩ ?_ rfl; simp; done) | (refine hd ⟨14, .guard⟩ ?_ rfl; simp; done) | (refine hd ⟨14, .phase⟩ ?_ rfl; simp; done) | (refine hd ⟨14, .chain⟩ ?_ rfl; simp; done))
          have e14 := c14 hd14
          rw [e14] at hK
          have t0 := keepc hB u0
          have t1 := keepc hB u1
          clear hd14
          clear hd
          go_simp
          refine hK _ _ ?_ (fun h => by cases h)
          intro s hs
          cases hs
          exact ⟨hB, c0, c1, c2, c3, c4, c5, c6, c7, c8, c9, c10, c11, c12, c13, c14, (fun _ => rfl), c16, c17, c18, c19, c20, c21, c22, c23, c24, c25, c26, c27, c28, c29, c30, c31, c32, c33⟩
        case s16r4 =>
          rintro L u W ⟨hB, c0, c1, c2, c3, c4, c5, c6, c7, c8, c9, c10, c11, c12, c13, c14, c15, c16, c17, c18, c19, c20, c21, c22, c23, c24, c25, c26, c27, c28, c29, c30, c31, c32, c33⟩ hf hd K hK
          dsimp only at hK
          have hd14 : L 14 = true := (by first | (refine hd ⟨14, .data⟩ ?_ rfl; simp; done) | (refine hd ⟨14, .guard⟩ ?_ rfl; simp; done) | (refine hd ⟨14, .phase⟩ ?_ rfl; simp; done) | (refine hd ⟨14, .chain⟩ ?_ rfl; simp; done))
          have hd15 : L 15 = true := (by first | (refine hd ⟨15, .data⟩ ?_ rfl; simp; done) | (refine hd ⟨15, .guard⟩ ?_ rfl; simp; done) | (refine hd ⟨15, .phase⟩ ?_ rfl; simp; done) | (refine hd ⟨15, .chain⟩ ?_ rfl; simp; done))
          have e14 := c14 hd14
          rw [e14] at hK
          have e15 := c15 hd15
          rw [e15] at hK
          clear hd14
          clear hd15
          clear hd
          go_simp
          go_wp2_with (go_at_call 26; ((with_reducible refine (RQ.out _).mono ?_); rintro e w5 ⟨rfl, hb⟩))
          refine hK _ _ ?_ (fun h => by cases h)
          intro s hs
          cases hs
          exact ⟨hB.trans (hb.mono hB.size), c0, c1, c2, c3, c4, c5, c6, c7, c8, c9, (fun h k => (c10 h k).keep hb), c11, c12, c13, c14, c15, (fun _ => rfl), c17, c18, c19, c20, c21, c22, (fun h k => (c23 h k).keep hb), c24, c25, c26, c27, c28, c29, c30, c31, c32, c33⟩
        case s17r4 =>
          rintro L u W ⟨hB, c0, c1, c2, c3, c4, c5, c6, c7, c8, c9, c10, c11, c12, c13, c14, c15, c16, c17, c18, c19, c20, c21, c22, c23, c24, c25, c26, c27, c28, c29, c30, c31, c32, c33⟩ hf hd K hK
          dsimp only at hK
          have hd7 : L 7 = true := (by first | (refine hd ⟨7, .data⟩ ?_ rfl; simp; done) | (refine hd ⟨7, .guard⟩ ?_ rfl; simp; done) | (refine hd ⟨7, .phase⟩ ?_ rfl; simp; done) | (refine hd ⟨7, .chain⟩ ?_ rfl; simp; done))
          have hd14 : L 14 = true := (by first | (refine hd ⟨14, .data⟩ ?_ rfl; simp; done) | (refine hd ⟨14, .guard⟩ ?_ rfl; simp; done) | (refine hd ⟨14, .phase⟩ ?_ rfl; simp; done) | (refine hd ⟨14, .chain⟩ ?_ rfl; simp; done))
          have hd16 : L 16 = true := (by first | (refine hd ⟨16, .data⟩ ?_ rfl; simp; done) | (refine hd ⟨16, .guard⟩ ?_ rfl; simp; done) | (refine hd ⟨16, .phase⟩ ?_ rfl; simp; done) | (refine hd ⟨16, .chain⟩ ?_ rfl; simp; done))
          have e7 := c7 hd7
          rw [e7] at hK
          have e14 := c14 hd14
          rw [e14] at hK
          have e16 := c16 hd16
          rw [e16] at hK
          clear hd7
          clear hd14
          clear hd16
          clear hd
          go_simp
          refine hK _ _ ?_ (fun h => by cases h)
          intro s hs
          cases hs
          exact ⟨hB, c0, c1, c2, c3, c4, c5, c6, c7, c8, c9, c10, c11, c12, c13, c14, c15, c16, (fun _ => rfl), c18, c19, c20, c21, c22, c23, c24, c25, c26, c27, c28, c29, c30, c31, c32, c33⟩
        case s18r4 =>
          rintro L u W ⟨hB, c0, c1, c2, c3, c4, c5, c6, c7, c8, c9, c10, c11, c12, c13, c14, c15, c16, c17, c18, c19, c20, c21, c22, c23, c24, c25, c26, c27, c28, c29, c30, c31, c32, c33⟩ hf hd K hK
          dsimp only at hK
          have hd7 : L 7 = true := (by first | (refine hd ⟨7, .data⟩ ?_ rfl; simp; done) | (refine hd ⟨7, .guard⟩ ?_ rfl; simp; done) | (refine hd ⟨7, .phase⟩ ?_ rfl; simp; done) | (refine hd ⟨7, .chain⟩ ?_ rfl; simp; done))
          have hd11 : L 11 = true := (by first | (refine hd ⟨11, .data⟩ ?_ rfl; simp; done) | (refine hd ⟨11, .guard⟩ ?_ rfl; simp; done) | (refine hd ⟨11, .phase⟩ ?_ rfl; simp; done) | (refine hd ⟨11, .chain⟩ ?_ rfl; simp; done))
          have hd17 : L 17 = true := (by first | (refine hd ⟨17, .data⟩ ?_ rfl; simp; done) | (refine hd ⟨17, .guard⟩ ?_ rfl; simp; done) | (refine hd ⟨17, .phase⟩ ?_ rfl; simp; done) | (refine hd ⟨17, .chain⟩ ?_ rfl; simp; done))
          have e7 := c7 hd7
          rw [e7] at hK
          have e11 := c11 hd11
          rw [e11] at hK
          have e17 := c17 hd17
          rw [e17] at hK
          clear hd7
          clear hd11
          clear hd17
          clear hd
          go_simp
          refine hK _ _ ?_ (fun h => by cases h)
          intro s hs
          cases hs
          exact ⟨hB, c0, c1, c2, c3, c4, c5, c6, c7, c8, c9, c10, c11, c12, c13, c14, c15, c16, c17, (fun _ => rfl), c19, c20, c21, c22, c23, c24, c25, c26, c27, c28, c29, c30, c31, c32, c33⟩
        case s19r4 =>
          rintro L u W ⟨hB, c0, c1, c2, c3, c4, c5, c6, c7, c8, c9, c10, c11, c12, c13, c14, c15, c16, c17, c18, c19, c20, c21, c22, c23, c24, c25, c26, c27, c28, c29, c30, c31, c32, c33⟩ hf hd K hK
          dsimp only at hK
          have hd7 : L 7 = true := (by first | (refine hd ⟨7, .data⟩ ?_ rfl; simp; done) | (refine hd ⟨7, .guard⟩ ?_ rfl; simp; done) | (refine hd ⟨7, .phase⟩ ?_ rfl; simp; done) | (refine hd ⟨7, .chain⟩ ?_ rfl; simp; done))
          have hd18 : L 18 = true := (by first | (refine hd ⟨18, .data⟩ ?_ rfl; simp; done) | (refine hd ⟨18, .guard⟩ ?_ rfl; simp; done) | (refine hd ⟨18, .phase⟩ ?_ rfl; simp; done) | (refine hd ⟨18, .chain⟩ ?_ rfl; simp; done))
          have e7 := c7 hd7
          rw [e7] at hK
          have e18 := c18 hd18
          rw [e18] at hK
          clear hd7
          clear hd18
          clear hd
          go_simp
          refine hK _ _ ?_ (fun h => by cases h)
          intro s hs
          cases hs
          exact ⟨hB, c0, c1, c2, c3, c4, c5, c6, c7, c8, c9, c10, c11, c12, c13, c14, c15, c16, c17, c18, (fun _ => rfl), c20, c21, c22, c23, c24, c25, c26, c27, c28, c29, c30, c31, c32, c33⟩
        case s20r4 =>
          rintro L u W ⟨hB, c0, c1, c2, c3, c4, c5, c6, c7, c8, c9, c10, c11, c12, c13, c14, c15, c16, c17, c18, c19, c20, c21, c22, c23, c24, c25, c26, c27, c28, c29, c30, c31, c32, c33⟩ hf hd K hK
          dsimp only at hK
          have hd19 : L 19 = true := (by first | (refine hd ⟨19, .data⟩ ?_ rfl; simp; done) | (refine hd ⟨19, .guard⟩ ?_ rfl; simp; done) | (refine hd ⟨19, .phase⟩ ?_ rfl; simp; done) | (refine hd ⟨19, .chain⟩ ?_ rfl; simp; done))
          have e19 := c19 hd19
          rw [e19] at hK
          clear hd19
          clear hd
          go_simp
          refine hK _ _ ?_ (fun h => by cases h)
          intro s hs
          cases hs
          exact ⟨hB, c0, c1, c2, c3, c4, c5, c6, c7, c8, c9, c10, c11, c12, c13, c14, c15, c16, c17, c18, c19, (fun _ => rfl), c21, c22, c23, c24, c25, c26, c27, c28, c29, c30, c31, c32, c33⟩
        case s21r4 =>
          rintro L u W ⟨hB, c0, c1, c2, c3, c4, c5, c6, c7, c8, c9, c10, c11, c12, c13, c14, c15, c16, c17, c18, c19, c20, c21, c22, c23, c24, c25, c26, c27, c28, c29, c30, c31, c32, c33⟩ hf hd K hK
          dsimp only at hK
          have hd20 : L 20 = true := (by first | (refine hd ⟨20, .data⟩ ?_ rfl; simp; done) | (refine hd ⟨20, .guard⟩ ?_ rfl; simp; done) | (refine hd ⟨20, .phase⟩ ?_ rfl; simp; done) | (refine hd ⟨20, .chain⟩ ?_ rfl; simp; done))
          have e20 := c20 hd20
          rw [e20] at hK
          have t0 := keepc hB x0
          have t1 := keepc hB x1
          have t2 := keepc hB x2
          clear hd20
          clear hd
          go_simp
          refine hK _ _ ?_ (fun h => by cases h)
          intro s hs
          cases hs
          exact ⟨hB, c0, c1, c2, c3, c4, c5, c6, c7, c8, c9, c10, c11, c12, c13, c14, c15, c16, c17, c18, c19, c20, (fun _ => rfl), c22, c23, c24, c25, c26, c27, c28, c29, c30, c31, c32, c33⟩
        case s22r4 =>
          rintro L u W ⟨hB, c0, c1, c2, c3, c4, c5, c6, c7, c8, c9, c10, c11, c12, c13, c14, c15, c16, c17, c18, c19, c20, c21, c22, c23, c24, c25, c26, c27, c28, c29, c30, c31, c32, c33⟩ hf hd K hK
          dsimp only at hK
          have hd20 : L 20 = true := (by first | (refine hd ⟨20, .data⟩ ?_ rfl; simp; done) | (refine hd ⟨20, .guard⟩ ?_ rfl; simp; done) | (refine hd ⟨20, .phase⟩ ?_ rfl; simp; done) | (refine hd ⟨20, .chain⟩ ?_ rfl; simp; done))
          have e20 := c20 hd20
          rw [e20] at hK
          have t0 := keepc hB y0
          have t1 := keepc hB y1
          have t2 := keepc hB y2
          clear hd20
          clear hd
          go_simp
          refine hK _ _ ?_ (fun h => by cases h)
          intro s hs
          cases hs
          exact ⟨hB, c0, c1, c2, c3, c4, c5, c6, c7, c8, c9, c10, c11, c12, c13, c14, c15, c16, c17, c18, c19, c20, c21, (fun _ => rfl), c23, c24, c25, c26, c27, c28, c29, c30, c31, c32, c33⟩
        case s23r4 =>
          rintro L u W ⟨hB, c0, c1, c2, c3, c4, c5, c6, c7, c8, c9, c10, c11, c12, c13, c14, c15, c16, c17, c18, c19, c20, c21, c22, c23, c24, c25, c26, c27, c28, c29, c30, c31, c32, c33⟩ hf hd K hK
          dsimp only at hK
          have hd20 : L 20 = true := (by first | (refine hd ⟨20, .data⟩ ?_ rfl; simp; done) | (refine hd ⟨20, .guard⟩ ?_ rfl; simp; done) | (refine hd ⟨20, .phase⟩ ?_ rfl; simp; done) | (refine hd ⟨20, .chain⟩ ?_ rfl; simp; done))
          have hd21 : L 21 = true := (by first | (refine hd ⟨21, .data⟩ ?_ rfl; simp; done) | (refine hd ⟨21, .guard⟩ ?_ rfl; simp; done) | (refine hd ⟨21, .phase⟩ ?_ rfl; simp; done) | (refine hd ⟨21, .chain⟩ ?_ rfl; simp; done))
          have hd22 : L 22 = true := (by first | (refine hd ⟨22, .data⟩ ?_ rfl; simp; done) | (refine hd ⟨22, .guard⟩ ?_ rfl; simp; done) | (refine hd ⟨22, .phase⟩ ?_ rfl; simp; done) | (refine hd ⟨22, .chain⟩ ?_ rfl; simp; done))
          have e20 := c20 hd20
          rw [e20] at hK
          have e21 := c21 hd21
          rw [e21] at hK
          have e22 := c22 hd22
          rw [e22] at hK
          clear hd20
          clear hd21
          clear hd22
          clear hd
          go_simp
          have hb : Below W.heap.size W (W.alloc (.cells #[.int .i64 a1, .int .i64 a2, .int .i64 a3, .int .i64 b1, .int .i64 b2, .int .i64 b3] 23)) := (Below.refl _ W).alloc (Nat.le_refl _) _
          refine hK _ _ ?_ (fun h => by cases h)
          intro s hs
          cases hs
          exact ⟨hB.trans (hb.mono hB.size), c0, c1, c2, c3, c4, c5, c6, c7, c8, c9, (fun h k => (c10 h k).keep hb), c11, c12, c13, c14, c15, c16, c17, c18, c19, c20, c21, c22, (fun _ _ => ⟨_, rfl, Lok.new _ _ _⟩), c24, c25, c26, c27, c28, c29, c30, c31, c32, c33⟩
        case s24r4 =>
          rintro L u W ⟨hB, c0, c1, c2, c3, c4, c5, c6, c7, c8, c9, c10, c11, c12, c13, c14, c15, c16, c17, c18, c19, c20, c21, c22, c23, c24, c25, c26, c27, c28, c29, c30, c31, c32, c33⟩ hf hd K hK
          dsimp only at hK
          have hd20 : L 20 = true := (by first | (refine hd ⟨20, .data⟩ ?_ rfl; simp; done) | (refine hd ⟨20, .guard⟩ ?_ rfl; simp; done) | (refine hd ⟨20, .phase⟩ ?_ rfl; simp; done) | (refine hd ⟨20, .chain⟩ ?_ rfl; simp; done))
          have hd23 : L 23 = true := (by first | (refine hd ⟨23, .data⟩ ?_ rfl; simp; done) | (refine hd ⟨23, .guard⟩ ?_ rfl; simp; done) | (refine hd ⟨23, .phase⟩ ?_ rfl; simp; done) | (refine hd ⟨23, .chain⟩ ?_ rfl; simp; done))
          have e20 := c20 hd20
          rw [e20] at hK
          have e23 := c23 hd23 (by first | exact hf | assumption)
          clear hd20
          clear hd23
          obtain ⟨g, eg, hl⟩ := e23; rw [eg] at hK
          clear hd
          go_simp
          go_wp2_with (go_at_call 27; ((with_reducible refine (V3.out g _ _ hl).mono ?_); rintro e w5 ⟨rfl, hb⟩))
          refine hK _ _ ?_ (fun h => by cases h)
          intro s hs
          cases hs
          exact ⟨hB.trans (hb.mono hB.size), c0, c1, c2, c3, c4, c5, c6, c7, c8, c9, (fun h k => (c10 h k).keep hb), c11, c12, c13, c14, c15, c16, c17, c18, c19, c20, c21, c22, (fun _ h => by cases h), (fun _ => rfl), c25, c26, c27, c28, c29, c30, c31, c32, c33⟩
        case s25r4 =>
          rintro L u W ⟨hB, c0, c1, c2, c3, c4, c5, c6, c7, c8, c9, c10, c11, c12, c13, c14, c15, c16, c17, c18, c19, c20, c21, c22, c23, c24, c25, c26, c27, c28, c29, c30, c31, c32, c33⟩ hf hd K hK
          dsimp only at hK
          have hd20 : L 20 = true := (by first | (refine hd ⟨20, .data⟩ ?_ rfl; simp; done) | (refine hd ⟨20, .guard⟩ ?_ rfl; simp; done) | (refine hd ⟨20, .phase⟩ ?_ rfl; simp; done) | (refine hd ⟨20, .chain⟩ ?_ rfl; simp; done))
          have e20 := c20 hd20
          rw [e20] at hK
          have t0 := keepc hB x0
          have t1 := keepc hB x1
          have t2 := keepc hB x2
          clear hd20
          clear hd
          go_simp
          refine hK _ _ ?_ (fun h => by cases h)
          intro s hs
          cases hs
          exact ⟨hB, c0, c1, c2, c3, c4, c5, c6, c7, c8, c9, c10, c11, c12, c13, c14, c15, c16, c17, c18, c19, c20, c21, c22, c23, c24, (fun _ => rfl), c26, c27, c28, c29, c30, c31, c32, c33⟩
        case s26r4 =>
          rintro L u W ⟨hB, c0, c1, c2, c3, c4, c5, c6, c7, c8, c9, c10, c11, c12, c13, c14, c15, c16, c17, c18, c19, c20, c21, c22, c23, c24, c25, c26, c27, c28, c29, c30, c31, c32, c33⟩ hf hd K hK
          dsimp only at hK
          have hd20 : L 20 = true := (by first | (refine hd ⟨20, .data⟩ ?_ rfl; simp; done) | (refine hd ⟨20, .guard⟩ ?_ rfl; simp; done) | (refine hd ⟨20, .phase⟩ ?_ rfl; simp; done) | (refine hd ⟨20, .chain⟩ ?_ rfl; simp; done))
          have hd25 : L 25 = true := (by first | (refine hd ⟨25, .data⟩ ?_ rfl; simp; done) | (refine hd ⟨25, .guard⟩ ?_ rfl; simp; done) | (refine hd ⟨25, .phase⟩ ?_ rfl; simp; done) | (refine hd ⟨25, .chain⟩ ?_ rfl; simp; done))
          have e20 := c20 hd20
          rw [e20] at hK
          have e25 := c25 hd25
          rw [e25] at hK
          clear hd20
          clear hd25
          clear hd
          go_simp
          go_wp2_with (go_at_call 28; ((with_reducible refine (RR.out _).mono ?_); rintro e w5 ⟨rfl, hb⟩))
          refine hK _ _ ?_ (fun h => by cases h)
          intro s hs
          cases hs
          exact ⟨hB.trans (hb.mono hB.size), c0, c1, c2, c3, c4, c5, c6, c7, c8, c9, (fun h k => (c10 h k).keep hb), c11, c12, c13, c14, c15, c16, c17, c18, c19, c20, c21, c22, (fun h k => (c23 h k).keep hb), c24, c25, (fun _ => rfl), c27, c28, c29, c30, c31, c32, c33⟩
        case s27r4 =>
          rintro L u W ⟨hB, c0, c1, c2, c3, c4, c5, c6, c7, c8, c9, c10, c11, c12, c13, c14, c15, c16, c17, c18, c19, c20, c21, c22, c23, c24, c25, c26, c27, c28, c29, c30, c31, c32, c33⟩ hf hd K hK
          dsimp only at hK
          have hd20 : L 20 = true := (by first | (refine hd ⟨20, .data⟩ ?_ rfl; simp; done) | (refine hd ⟨20, .guard⟩ ?_ rfl; simp; done) | (refine hd ⟨20, .phase⟩ ?_ rfl; simp; done) | (refine hd ⟨20, .chain⟩ ?_ rfl; simp; done))
          have hd26 : L 26 = true := (by first | (refine hd ⟨26, .data⟩ ?_ rfl; simp; done) | (refine hd ⟨26, .guard⟩ ?_ rfl; simp; done) | (refine hd ⟨26, .phase⟩ ?_ rfl; simp; done) | (refine hd ⟨26, .chain⟩ ?_ rfl; simp; done))
          have e20 := c20 hd20
          rw [e20] at hK
          have e26 := c26 hd26
          rw [e26] at hK
          clear hd20
          clear hd26
          clear hd
          go_simp
          refine hK _ _ ?_ (fun h => by cases h)
          intro s hs
          cases hs
          exact ⟨hB, c0, c1, c2, c3, c4, c5, c6, c7, c8, c9, c10, c11, c12, c13, c14, c15, c16, c17, c18, c19, c20, c21, c22, c23, c24, c25, c26, (fun _ => rfl), c28, c29, c30, c31, c32, c33⟩
        case s28r4 =>
          rintro L u W ⟨hB, c0, c1, c2, c3, c4, c5, c6, c7, c8, c9, c10, c11, c12, c13, c14, c15, c16, c17, c18, c19, c20, c21, c22, c23, c24, c25, c26, c27, c28, c29, c30, c31, c32, c33⟩ hf hd K hK
          dsimp only at hK
          have hd27 : L 27 = true := (by first | (refine hd ⟨27, .data⟩ ?_ rfl; simp; done) | (refine hd ⟨27, .guard⟩ ?_ rfl; simp; done) | (refine hd ⟨27, .phase⟩ ?_ rfl; simp; done) | (refine hd ⟨27, .chain⟩ ?_ rfl; simp; done))
          have e27 := c27 hd27
          rw [e27] at hK
          have t0 := keepc hB y0
          have t1 := keepc hB y1
          have t2 := keepc hB y2
          clear hd27
          clear hd
          go_simp
          refine hK _ _ ?_ (fun h => by cases h)
          intro s hs
          cases hs
          exact ⟨hB, c0, c1, c2, c3, c4, c5, c6, c7, c8, c9, c10, c11, c12, c13, c14, c15, c16, c17, c18, c19, c20, c21, c22, c23, c24, c25, c26, c27, (fun _ => rfl), c29, c30, c31, c32, c33⟩
        case s29r4 =>
          rintro L u W ⟨hB, c0, c1, c2, c3, c4, c5, c6, c7, c8, c9, c10, c11, c12, c13, c14, c15, c16, c17, c18, c19, c20, c21, c22, c23, c24, c25, c26, c27, c28, c29, c30, c31, c32, c33⟩ hf hd K hK
          dsimp only at hK
          have hd27 : L 27 = true := (by first | (refine hd ⟨27, .data⟩ ?_ rfl; simp; done) | (refine hd ⟨27, .guard⟩ ?_ rfl; simp; done) | (refine hd ⟨27, .phase⟩ ?_ rfl; simp; done) | (refine hd ⟨27, .chain⟩ ?_ rfl; simp; done))
          have hd28 : L 28 = true := (by first | (refine hd ⟨28, .data⟩ ?_ rfl; simp; done) | (refine hd ⟨28, .guard⟩ ?_ rfl; simp; done) | (refine hd ⟨28, .phase⟩ ?_ rfl; simp; done) | (refine hd ⟨28, .chain⟩ ?_ rfl; simp; done))
          have e27 := c27 hd27
          rw [e27] at hK
          have e28 := c28 hd28
          rw [e28] at hK
          clear hd27
          clear hd28
          clear hd
          go_simp
          go_wp2_with (go_at_call 28; ((with_reducible refine (RS.out _).mono ?_); rintro e w5 ⟨rfl, hb⟩))
          refine hK _ _ ?_ (fun h => by cases h)
          intro s hs
          cases hs
          exact ⟨hB.trans (hb.mono hB.size), c0, c1, c2, c3, c4, c5, c6, c7, c8, c9, (fun h k => (c10 h k).keep hb), c11, c12, c13, c14, c15, c16, c17, c18, c19, c20, c21, c22, (fun h k => (c23 h k).keep hb), c24, c25, c26, c27, c28, (fun _ => rfl), c30, c31, c32, c33⟩
        case s30r4 =>
          rintro L u W ⟨hB, c0, c1, c2, c3, c4, c5, c6, c7, c8, c9, c10, c11, c12, c13, c14, c15, c16, c17, c18, c19, c20, c21, c22, c23, c24, c25, c26, c27, c28, c29, c30, c31, c32, c33⟩ hf hd K hK
          dsimp only at hK
          have hd20 : L 20 = true := (by first | (refine hd ⟨20, .data⟩ ?_ rfl; simp; done) | (refine hd ⟨20, .guard⟩ ?_ rfl; simp; done) | (refine hd ⟨20, .phase⟩ ?_ rfl; simp; done) | (refine hd ⟨20, .chain⟩ ?_ rfl; simp; done))
          have hd27 : L 27 = true := (by first | (refine hd ⟨27, .data⟩ ?_ rfl; simp; done) | (refine hd ⟨27, .guard⟩ ?_ rfl; simp; done) | (refine hd ⟨27, .phase⟩ ?_ rfl; simp; done) | (refine hd ⟨27, .chain⟩ ?_ rfl; simp; done))
          have hd29 : L 29 = true := (by first | (refine hd ⟨29, .data⟩ ?_ rfl; simp; done) | (refine hd ⟨29, .guard⟩ ?_ rfl; simp; done) | (refine hd ⟨29, .phase⟩ ?_ rfl; simp; done) | (refine hd ⟨29, .chain⟩ ?_ rfl; simp; done))
          have e20 := c20 hd20
          rw [e20] at hK
          have e27 := c27 hd27
          rw [e27] at hK
          have e29 := c29 hd29
          rw [e29] at hK
          clear hd20
          clear hd27
          clear hd29
          clear hd
          go_simp
          refine hK _ _ ?_ (fun h => by cases h)
          intro s hs
          cases hs
          exact ⟨hB, c0, c1, c2, c3, c4, c5, c6, c7, c8, c9, c10, c11, c12, c13, c14, c15, c16, c17, c18, c19, c20, c21, c22, c23, c24, c25, c26, c27, c28, c29, (fun _ => rfl), c31, c32, c33⟩
        case s31r4 =>
          rintro L u W ⟨hB, c0, c1, c2, c3, c4, c5, c6, c7, c8, c9, c10, c11, c12, c13, c14, c15, c16, c17, c18, c19, c20, c21, c22, c23, c24, c25, c26, c27, c28, c29, c30, c31, c32, c33⟩ hf hd K hK
          dsimp only at hK
          have hd20 : L 20 = true := (by first | (refine hd ⟨20, .data⟩ ?_ rfl; simp; done) | (refine hd ⟨20, .guard⟩ ?_ rfl; simp; done) | (refine hd ⟨20, .phase⟩ ?_ rfl; simp; done) | (refine hd ⟨20, .chain⟩ ?_ rfl; simp; done))
          have hd24 : L 24 = true := (by first | (refine hd ⟨24, .data⟩ ?_ rfl; simp; done) | (refine hd ⟨24, .guard⟩ ?_ rfl; simp; done) | (refine hd ⟨24, .phase⟩ ?_ rfl; simp; done) | (refine hd ⟨24, .chain⟩ ?_ rfl; simp; done))
          have hd30 : L 30 = true := (by first | (refine hd ⟨30, .data⟩ ?_ rfl; simp; done) | (refine hd ⟨30, .guard⟩ ?_ rfl; simp; done) | (refine hd ⟨30, .phase⟩ ?_ rfl; simp; done) | (refine hd ⟨30, .chain⟩ ?_ rfl; simp; done))
          have e20 := c20 hd20
          rw [e20] at hK
          have e24 := c24 hd24
          rw [e24] at hK
          have e30 := c30 hd30
          rw [e30] at hK
          clear hd20
          clear hd24
          clear hd30
          clear hd
          go_simp
          refine hK _ _ ?_ (fun h => by cases h)
          intro s hs
          cases hs
          exact ⟨hB, c0, c1, c2, c3, c4, c5, c6, c7, c8, c9, c10, c11, c12, c13, c14, c15, c16, c17, c18, c19, c20, c21, c22, c23, c24, c25, c26, c27, c28, c29, c30, (fun _ => rfl), c32, c33⟩
        case s32r4 =>
          rintro L u W ⟨hB, c0, c1, c2, c3, c4, c5, c6, c7, c8, c9, c10, c11, c12, c13, c14, c15, c16, c17, c18, c19, c20, c21, c22, c23, c24, c25, c26, c27, c28, c29, c30, c31, c32, c33⟩ hf hd K hK
          dsimp only at hK
          have hd20 : L 20 = true := (by first | (refine hd ⟨20, .data⟩ ?_ rfl; simp; done) | (refine hd ⟨20, .guard⟩ ?_ rfl; simp; done) | (refine hd ⟨20, .phase⟩ ?_ rfl; simp; done) | (refine hd ⟨20, .chain⟩ ?_ rfl; simp; done))
          have hd31 : L 31 = true := (by first | (refine hd ⟨31, .data⟩ ?_ rfl; simp; done) | (refine hd ⟨31, .guard⟩ ?_ rfl; simp; done) | (refine hd ⟨31, .phase⟩ ?_ rfl; simp; done) | (refine hd ⟨31, .chain⟩ ?_ rfl; simp; done))
          have e20 := c20 hd20
          rw [e20] at hK
          have e31 := c31 hd31
          rw [e31] at hK
          clear hd20
          clear hd31
          clear hd
          go_simp
          refine hK _ _ ?_ (fun h => by cases h)
          intro s hs
          cases hs
          exact ⟨hB, c0, c1, c2, c3, c4, c5, c6, c7, c8, c9, c10, c11, c12, c13, c14, c15, c16, c17, c18, c19, c20, c21, c22, c23, c24, c25, c26, c27, c28, c29, c30, c31, (fun _ => rfl), c33⟩
        case s33r4 =>
          rintro L u W ⟨hB, c0, c1, c2, c3, c4, c5, c6, c7, c8, c9, c10, c11, c12, c13, c14, c15, c16, c17, c18, c19, c20, c21, c22, c23, c24, c25, c26, c27, c28, c29, c30, c31, c32, c33⟩ hf hd K hK
          dsimp only at hK
          have hd32 : L 32 = true := (by first | (refine hd ⟨32, .data⟩ ?_ rfl; simp; done) | (refine hd ⟨32, .guard⟩ ?_ rfl; simp; done) | (refine hd ⟨32, .phase⟩ ?_ rfl; simp; done) | (refine hd ⟨32, .chain⟩ ?_ rfl; simp; done))
          have e32 := c32 hd32
          rw [e32] at hK
          clear hd32
          clear hd
          go_simp
          refine hK _ _ ?_ (fun h => by cases h)
          intro s hs
          cases hs
          exact ⟨hB, c0, c1, c2, c3, c4, c5, c6, c7, c8, c9, c10, c11, c12, c13, c14, c15, c16, c17, c18, c19, c20, c21, c22, c23, c24, c25, c26, c27, c28, c29, c30, c31, c32, (fun _ => rfl)⟩
      case finr4 =>
        rintro L u W hL ⟨hB, c0, c1, c2, c3, c4, c5, c6, c7, c8, c9, c10, c11, c12, c13, c14, c15, c16, c17, c18, c19, c20, c21, c22, c23, c24, c25, c26, c27, c28, c29, c30, c31, c32, c33⟩
        have e0 := c0 (hL 0 (by decide))
        have e1 := c1 (hL 1 (by decide))
        have e2 := c2 (hL 2 (by decide))
        have e3 := c3 (hL 3 (by decide))
        have e4 := c4 (hL 4 (by decide))
        have e5 := c5 (hL 5 (by decide))
        have e6 := c6 (hL 6 (by decide))
        have e7 := c7 (hL 7 (by decide))
        have e8 := c8 (hL 8 (by decide))
        have e9 := c9 (hL 9 (by decide))
        have e11 := c11 (hL 11 (by decide))
        have e12 := c12 (hL 12 (by decide))
        have e13 := c13 (hL 13 (by decide))
        have e14 := c14 (hL 14 (by decide))
        have e15 := c15 (hL 15 (by decide))
        have e16 := c16 (hL 16 (by decide))
        have e17 := c17 (hL 17 (by decide))
        have e18 := c18 (hL 18 (by decide))
        have e19 := c19 (hL 19 (by decide))
        have e20 := c20 (hL 20 (by decide))
        have e21 := c21 (hL 21 (by decide))
        have e22 := c22 (hL 22 (by decide))
        have e24 := c24 (hL 24 (by decide))
        have e25 := c25 (hL 25 (by decide))
        have e26 := c26 (hL 26 (by decide))
        have e27 := c27 (hL 27 (by decide))
        have e28 := c28 (hL 28 (by decide))
        have e29 := c29 (hL 29 (by decide))
        have e30 := c30 (hL 30 (by decide))
        have e31 := c31 (hL 31 (by decide))
        have e32 := c32 (hL 32 (by decide))
        have e33 := c33 (hL 33 (by decide))
        clear hL c0 c1 c2 c3 c4 c5 c6 c7 c8 c9 c10 c11 c12 c13 c14 c15 c16 c17 c18 c19 c20 c21 c22 c23 c24 c25 c26 c27 c28 c29 c30 c31 c32 c33
        try simp only [e0, e1, e2, e3, e4, e5, e6, e7, e8, e9, e11, e12, e13, e14, e15, e16, e17, e18, e19, e20, e21, e22, e24, e25, e26, e27, e28, e29, e30, e31, e32, e33]
        clear e0 e1 e2 e3 e4 e5 e6 e7 e8 e9 e11 e12 e13 e14 e15 e16 e17 e18 e19 e20 e21 e22 e24 e25 e26 e27 e28 e29 e30 e31 e32 e33
        go_wp2
        go_ret
        exact ⟨rfl, HB.out.trans (hB.mono HB.out.size)⟩

theorem law_vec (a1 a2 a3 b1 b2 b3 j1 j2 o1 o2 k : Int) (w : World) (h1 : I64 a1) (h2 : I64 a2) (h3 : I64 a3) :
    Calls Try.prog 3 #[.agg #[.int .i64 a1, .int .i64 a2, .int .i64 a3], .agg #[.int .i64 b1, .int .i64 b2, .int .i64 b3], .agg #[.int .i64 j1, .int .i64 j2], .agg #[.int .i64 o1, .int .i64 o2], .int .i64 k] w fun e' w' => e' = .returned (.bool true) ∧ Below w.heap.size w w' :=
  law_vec_at a1 a2 a3 b1 b2 b3 j1 j2 o1 o2 k _ _ _ _ _ _ _ _ _ _ _ _ _ _ _ _ _ _ _ _ _ _ w
    (Lib.hid fun W => dot_any a1 a2 a3 b1 b2 b3 W) (Lib.hid fun W => cross2_any j1 j2 o1 o2 W) (Lib.hid fun W => cross3_any a1 a2 a3 b1 b2 b3 W) (Lib.hid fun W => vdrop_any a1 a2 a3 k W)
    (Lib.hid fun W => sub2_any j1 j2 o1 o2 W) (Lib.hid fun W => sub3_any a1 a2 a3 b1 b2 b3 W) (Lib.hid fun W => axis_any a1 a2 a3 W h1 h2 h3) (Lib.hid fun W => less3_any a1 a2 a3 b1 b2 b3 W)
    (Lib.hid fun W => rdot_any a1 a2 a3 b1 b2 b3 W) (Lib.hid fun W => rcross2_any j1 j2 o1 o2 W) (Lib.hid fun W => rcross3_any a1 a2 a3 b1 b2 b3 W) (Lib.hid fun W => rdrop_any a1 a2 a3 k W)
    (Lib.hid fun W => rsub2_any j1 j2 o1 o2 W) (Lib.hid fun W => rsub3_any a1 a2 a3 b1 b2 b3 W) (Lib.hid fun W => raxis_any a1 a2 a3 W h1 h2 h3) (Lib.hid fun W => rless3_any a1 a2 a3 b1 b2 b3 W)
    (Lib.hid fun W => ris2_any j1 j2 W) (Lib.hid fun W => ris2_any o1 o2 W) (Lib.hid fun W => ris3_any a1 a2 a3 W) (Lib.hid fun W => ris3_any b1 b2 b3 W)
    (Lib.hid fun g T W q => is2_two j1 j2 o1 o2 g T W q) (Lib.hid fun g T W q => is3_two a1 a2 a3 b1 b2 b3 g T W q)
end Go.Proofs.Ytmejipfejdckiaa
