/-
  The law VecSquare: its walk.
-/
import Derived.Test.YtmejipfejdckiaaVcL
namespace Go.Proofs.Ytmejipfejdckiaa
open Go.RowKit

theorem sq_zero (a b c d e f : Int) : a * (b * f - c * e) + b * (c * d - a * f) + c * (a * e - b * d) = 0 := by grind
theorem sq_zero2 (a b c d e f : Int) : d * (b * f - c * e) + e * (c * d - a * f) + f * (a * e - b * d) = 0 := by grind
theorem cross_bd {a b c d : Int} (ha : NR a) (hb : NR b) (hc : NR c) (hd : NR d) : -2199023255552 ≤ a * d - b * c ∧ a * d - b * c ≤ 2199023255552 := by
  have p := near_prod ha hd
  have q := near_prod hb hc
  omega
theorem far_prod {a p : Int} (ha : NR a) (hp : -2199023255552 ≤ p ∧ p ≤ 2199023255552) : -2305843009213693952 ≤ a * p ∧ a * p ≤ 2305843009213693952 := by
  unfold NR at ha
  have h := Nat.mul_le_mul (show a.natAbs ≤ 1048576 by omega) (show p.natAbs ≤ 2199023255552 by omega)
  rw [← Int.natAbs_mul] at h
  omega
theorem sum_wraps {x y z : Int} (hx : -2305843009213693952 ≤ x ∧ x ≤ 2305843009213693952) (hy : -2305843009213693952 ≤ y ∧ y ≤ 2305843009213693952) (hz : -2305843009213693952 ≤ z ∧ z ≤ 2305843009213693952) :
    IntKind.i64.wrap x = x ∧ IntKind.i64.wrap y = y ∧ IntKind.i64.wrap z = z ∧ IntKind.i64.wrap (x + y) = x + y ∧ IntKind.i64.wrap (x + y + z) = x + y + z :=
  ⟨IntWalk.i64_in _ (by omega), IntWalk.i64_in _ (by omega), IntWalk.i64_in _ (by omega), IntWalk.i64_in _ (by omega), IntWalk.i64_in _ (by omega)⟩

set_option maxRecDepth 100000 in
set_option maxHeartbeats 4000000 in
theorem law_square (a b c d e f : Int) (w : World) :
    Calls Try.prog 4 #[.agg #[.int .i64 a, .int .i64 b, .int .i64 c], .agg #[.int .i64 d, .int .i64 e, .int .i64 f]] w fun e' w' => e' = .returned (.bool true) ∧ Below w.heap.size w w' := by
  have X1 := Lib.hid (fun W => cross3_any a b c d e f W)
  have X2 := Lib.hid (fun W => cross3_any d e f a b c W)
  rw [Bool.and_comm (n3 d e f)] at X2
  cases ht : n3 a b c && n3 d e f with
  | false =>
    rw [ht] at X1 X2
    have I := Lib.hid (fun g T W h => is3_b a b c d e f false ht g T W h)
    rw [show xF false b c e f = 0 from rfl, show xF false c a f d = 0 from rfl, show xF false a b d e = 0 from rfl, show rE false = 5 from rfl] at X1
    rw [show xF false e f b c = 0 from rfl, show xF false f d c a = 0 from rfl, show xF false d e a b = 0 from rfl, show rE false = 5 from rfl] at X2
    clear ht
    go_enter Try.func4, Try.ntmps4
    go_upto_region 1 with fail
    have hbx := below_new1 w (.cells #[.int .i64 a, .int .i64 b, .int .i64 c] 23)
    have zx : (w.alloc (.cells #[.int .i64 a, .int .i64 b, .int .i64 c] 23)).heap.size = w.heap.size + 1 := by simp
    have HB := Lib.hid hbx
    have kx := Lib.hid (Lok.new w 23 #[.int .i64 a, .int .i64 b, .int .i64 c])
    clear hbx
    generalize w.alloc (.cells #[.int .i64 a, .int .i64 b, .int .i64 c] 23) = Vx at *
    have hby := below_new1 Vx (.cells #[.int .i64 d, .int .i64 e, .int .i64 f] 23)
    replace kx := Lib.hid (kx.out.keep hby)
    have zy : (Vx.alloc (.cells #[.int .i64 d, .int .i64 e, .int .i64 f] 23)).heap.size = Vx.heap.size + 1 := by simp
    replace HB := Lib.hid (HB.out.trans (hby.mono HB.out.size))
    have ky := Lib.hid (Lok.new Vx 23 #[.int .i64 d, .int .i64 e, .int .i64 f])
    clear hby
    generalize Vx.alloc (.cells #[.int .i64 d, .int .i64 e, .int .i64 f] 23) = Vy at *
    rw [zx] at ky
    clear zx zy
    have x0 := kx.out.cell (i := 0) rfl
    have x1 := kx.out.cell (i := 1) rfl
    have x2 := kx.out.cell (i := 2) rfl
    have y0 := ky.out.cell (i := 0) rfl
    have y1 := ky.out.cell (i := 1) rfl
    have y2 := ky.out.cell (i := 2) rfl
    go_wp2_with fail
    clear x0 x1 x2 y0 y1 y2
    ((with_reducible refine (X1.out _).mono ?_); rintro e w1 ⟨rfl, hb1⟩)
    replace HB := Lib.hid (HB.out.trans (hb1.mono HB.out.size))
    replace kx := Lib.hid (kx.out.keep hb1)
    replace ky := Lib.hid (ky.out.keep hb1)
    clear hb1
    go_upto_region 2 with fail
    have hb1 := below_new1 w1 (.cells #[.int .i64 0, .int .i64 0, .int .i64 0] 23)
    replace HB := Lib.hid (HB.out.trans (hb1.mono HB.out.size))
    replace kx := Lib.hid (kx.out.keep hb1)
    replace ky := Lib.hid (ky.out.keep hb1)
    have k1 := Lib.hid (Lok.new w1 23 #[.int .i64 0, .int .i64 0, .int .i64 0])
    clear hb1
    generalize w1.alloc (.cells #[.int .i64 0, .int .i64 0, .int .i64 0] 23) = V1 at *
    generalize w1.heap.size = g1 at *
    have x0 := kx.out.cell (i := 0) rfl
    have x1 := kx.out.cell (i := 1) rfl
    have x2 := kx.out.cell (i := 2) rfl
    have y0 := ky.out.cell (i := 0) rfl
    have y1 := ky.out.cell (i := 1) rfl
    have y2 := ky.out.cell (i := 2) rfl
    go_wp2_with fail
    clear x0 x1 x2 y0 y1 y2
    ((with_reducible refine (X2.out _).mono ?_); rintro e w2 ⟨rfl, hb2⟩)
    replace HB := Lib.hid (HB.out.trans (hb2.mono HB.out.size))
    replace kx := Lib.hid (kx.out.keep hb2)
    replace ky := Lib.hid (ky.out.keep hb2)
    replace k1 := Lib.hid (k1.out.keep hb2)
    clear hb2
    go_upto_region 3 with fail
    have hb2 := below_new1 w2 (.cells #[.int .i64 0, .int .i64 0, .int .i64 0] 23)
    replace HB := Lib.hid (HB.out.trans (hb2.mono HB.out.size))
    replace kx := Lib.hid (kx.out.keep hb2)
    replace ky := Lib.hid (ky.out.keep hb2)
    replace k1 := Lib.hid (k1.out.keep hb2)
    have k2 := Lib.hid (Lok.new w2 23 #[.int .i64 0, .int .i64 0, .int .i64 0])
    clear hb2
    generalize w2.alloc (.cells #[.int .i64 0, .int .i64 0, .int .i64 0] 23) = V2 at *
    generalize w2.heap.size = g2 at *
    go_wp2_with fail
    (((with_reducible refine (crossed_any _).mono ?_); rintro e w3 ⟨rfl, hb3⟩); replace HB := Lib.hid (HB.out.trans (hb3.mono HB.out.size)); replace kx := Lib.hid (kx.out.keep hb3); replace ky := Lib.hid (ky.out.keep hb3); replace k1 := Lib.hid (k1.out.keep hb3); clear hb3)
    have x0 := kx.out.cell (i := 0) rfl
    have x1 := kx.out.cell (i := 1) rfl
    have x2 := kx.out.cell (i := 2) rfl
    have y0 := ky.out.cell (i := 0) rfl
    have y1 := ky.out.cell (i := 1) rfl
    have y2 := ky.out.cell (i := 2) rfl
    have a0 := k1.out.cell (i := 0) rfl
    have a1 := k1.out.cell (i := 1) rfl
    have a2 := k1.out.cell (i := 2) rfl
    go_wp2_with fail
    clear x0 x1 x2 y0 y1 y2 a0 a1 a2
    have hbr := below_new1 w3 (.cells #[.int .i64 a, .int .i64 b, .int .i64 c, .int .i64 d, .int .i64 e, .int .i64 f] 23)
    have zr : (w3.alloc (.cells #[.int .i64 a, .int .i64 b, .int .i64 c, .int .i64 d, .int .i64 e, .int .i64 f] 23)).heap.size = w3.heap.size + 1 := by simp
    replace HB := Lib.hid (HB.out.trans (hbr.mono HB.out.size))
    have kr := Lib.hid (Lok.new w3 23 #[.int .i64 a, .int .i64 b, .int .i64 c, .int .i64 d, .int .i64 e, .int .i64 f])
    clear hbr
    generalize w3.alloc (.cells #[.int .i64 a, .int .i64 b, .int .i64 c, .int .i64 d, .int .i64 e, .int .i64 f] 23) = Vr at *
    clear zr
    generalize w3.heap.size = gr at *
    (((with_reducible refine (I.out _ _ _ kr.out).mono ?_); rintro e w4 ⟨rfl, hb4⟩); replace HB := Lib.hid (HB.out.trans (hb4.mono HB.out.size)); clear hb4)
    go_wp2
    go_ret
    exact ⟨rfl, HB.out⟩
  | true =>
    rw [ht] at X1 X2
    rw [show xF true b c e f = b * f - c * e from rfl, show xF true c a f d = c * d - a * f from rfl, show xF true a b d e = a * e - b * d from rfl, show rE true = 0 from rfl] at X1
    rw [show xF true e f b c = e * c - f * b from rfl, show xF true f d c a = f * a - d * c from rfl, show xF true d e a b = d * b - e * a from rfl, show rE true = 0 from rfl,
      show e * c - f * b = -(b * f - c * e) by grind, show f * a - d * c = -(c * d - a * f) by grind, show d * b - e * a = -(a * e - b * d) by grind] at X2
    rw [Bool.and_eq_true, n3_iff, n3_iff] at ht
    have z1 := sq_zero a b c d e f
    have z2 := sq_zero2 a b c d e f
    obtain ⟨⟨ha, hb, hc⟩, hd, he, hf⟩ := ht
    have p1 := cross_bd hb hc he hf
    have p2 := cross_bd hc ha hf hd
    have p3 := cross_bd ha hb hd he
    generalize b * f - c * e = p at *
    generalize c * d - a * f = q at *
    generalize a * e - b * d = r at *
    obtain ⟨e1, e2, e3, e4, e5⟩ := sum_wraps (far_prod ha p1) (far_prod hb p2) (far_prod hc p3)
    obtain ⟨g1, g2, g3, g4, g5⟩ := sum_wraps (far_prod hd p1) (far_prod he p2) (far_prod hf p3)
    replace e5 := e5.trans z1
    replace g5 := g5.trans z2
    have o1 : p + -p = 0 := by omega
    have o2 : q + -q = 0 := by omega
    have o3 : r + -r = 0 := by omega
    clear ha hb hc hd he hf p1 p2 p3 z1 z2
    go_enter Try.func4, Try.ntmps4
    go_upto_region 1 with fail
    have hbx := below_new1 w (.cells #[.int .i64 a, .int .i64 b, .int .i64 c] 23)
    have zx : (w.alloc (.cells #[.int .i64 a, .int .i64 b, .int .i64 c] 23)).heap.size = w.heap.size + 1 := by simp
    have HB := Lib.hid hbx
    have kx := Lib.hid (Lok.new w 23 #[.int .i64 a, .int .i64 b, .int .i64 c])
    clear hbx
    generalize w.alloc (.cells #[.int .i64 a, .int .i64 b, .int .i64 c] 23) = Vx at *
    have hby := below_new1 Vx (.cells #[.int .i64 d, .int .i64 e, .int .i64 f] 23)
    replace kx := Lib.hid (kx.out.keep hby)
    have zy : (Vx.alloc (.cells #[.int .i64 d, .int .i64 e, .int .i64 f] 23)).heap.size = Vx.heap.size + 1 := by simp
    replace HB := Lib.hid (HB.out.trans (hby.mono HB.out.size))
    have ky := Lib.hid (Lok.new Vx 23 #[.int .i64 d, .int .i64 e, .int .i64 f])
    clear hby
    generalize Vx.alloc (.cells #[.int .i64 d, .int .i64 e, .int .i64 f] 23) = Vy at *
    rw [zx] at ky
    clear zx zy
    have x0 := kx.out.cell (i := 0) rfl
    have x1 := kx.out.cell (i := 1) rfl
    have x2 := kx.out.cell (i := 2) rfl
    have y0 := ky.out.cell (i := 0) rfl
    have y1 := ky.out.cell (i := 1) rfl
    have y2 := ky.out.cell (i := 2) rfl
    go_wp2_with fail
    clear x0 x1 x2 y0 y1 y2
    ((with_reducible refine (X1.out _).mono ?_); rintro e w1 ⟨rfl, hb1⟩)
    replace HB := Lib.hid (HB.out.trans (hb1.mono HB.out.size))
    replace kx := Lib.hid (kx.out.keep hb1)
    replace ky := Lib.hid (ky.out.keep hb1)
    clear hb1
    go_upto_region 2 with fail
    have hb1 := below_new1 w1 (.cells #[.int .i64 p, .int .i64 q, .int .i64 r] 23)
    replace HB := Lib.hid (HB.out.trans (hb1.mono HB.out.size))
    replace kx := Lib.hid (kx.out.keep hb1)
    replace ky := Lib.hid (ky.out.keep hb1)
    have k1 := Lib.hid (Lok.new w1 23 #[.int .i64 p, .int .i64 q, .int .i64 r])
    clear hb1
    generalize w1.alloc (.cells #[.int .i64 p, .int .i64 q, .int .i64 r] 23) = V1 at *
    generalize w1.heap.size = g1 at *
    have x0 := kx.out.cell (i := 0) rfl
    have x1 := kx.out.cell (i := 1) rfl
    have x2 := kx.out.cell (i := 2) rfl
    have y0 := ky.out.cell (i := 0) rfl
    have y1 := ky.out.cell (i := 1) rfl
    have y2 := ky.out.cell (i := 2) rfl
    go_wp2_with fail
    clear x0 x1 x2 y0 y1 y2
    ((with_reducible refine (X2.out _).mono ?_); rintro e w2 ⟨rfl, hb2⟩)
    replace HB := Lib.hid (HB.out.trans (hb2.mono HB.out.size))
    replace kx := Lib.hid (kx.out.keep hb2)
    replace ky := Lib.hid (ky.out.keep hb2)
    replace k1 := Lib.hid (k1.out.keep hb2)
    clear hb2
    go_upto_region 3 with fail
    have hb2 := below_new1 w2 (.cells #[.int .i64 (-p), .int .i64 (-q), .int .i64 (-r)] 23)
    replace HB := Lib.hid (HB.out.trans (hb2.mono HB.out.size))
    replace kx := Lib.hid (kx.out.keep hb2)
    replace ky := Lib.hid (ky.out.keep hb2)
    replace k1 := Lib.hid (k1.out.keep hb2)
    have k2 := Lib.hid (Lok.new w2 23 #[.int .i64 (-p), .int .i64 (-q), .int .i64 (-r)])
    clear hb2
    generalize w2.alloc (.cells #[.int .i64 (-p), .int .i64 (-q), .int .i64 (-r)] 23) = V2 at *
    generalize w2.heap.size = g2 at *
    have a0 := k1.out.cell (i := 0) rfl
    have a1 := k1.out.cell (i := 1) rfl
    have a2 := k1.out.cell (i := 2) rfl
    have b0 := k2.out.cell (i := 0) rfl
    have b1 := k2.out.cell (i := 1) rfl
    have b2 := k2.out.cell (i := 2) rfl
    go_wp2_with fail
    clear a0 a1 a2 b0 b1 b2
    (((with_reducible refine (crossed_any _).mono ?_); rintro e w3 ⟨rfl, hb3⟩); replace HB := Lib.hid (HB.out.trans (hb3.mono HB.out.size)); replace kx := Lib.hid (kx.out.keep hb3); replace ky := Lib.hid (ky.out.keep hb3); replace k1 := Lib.hid (k1.out.keep hb3); clear hb3)
    have x0 := kx.out.cell (i := 0) rfl
    have x1 := kx.out.cell (i := 1) rfl
    have x2 := kx.out.cell (i := 2) rfl
    have y0 := ky.out.cell (i := 0) rfl
    have y1 := ky.out.cell (i := 1) rfl
    have y2 := ky.out.cell (i := 2) rfl
    have a0 := k1.out.cell (i := 0) rfl
    have a1 := k1.out.cell (i := 1) rfl
    have a2 := k1.out.cell (i := 2) rfl
    go_wp2
    go_ret
    exact ⟨rfl, HB.out⟩
end Go.Proofs.Ytmejipfejdckiaa
