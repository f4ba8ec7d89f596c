/-
  The law VecAlong: its walk.
-/
import Derived.Test.YtmejipfejdckiaaVcL
namespace Go.Proofs.Ytmejipfejdckiaa
open Go.RowKit

theorem dpX_at (x y z : Int) {k : Nat} (h : k < 3) : dpX x y z k = dX x y z k := if_pos (by unfold axB; omega)
theorem dpY_at (x y z : Int) {k : Nat} (h : k < 3) : dpY x y z k = dY x y z k := if_pos (by unfold axB; omega)
theorem dpE_at {k : Nat} (h : k < 3) : dpE k = 0 := if_pos (by unfold axB; omega)
theorem vdrop_at (x y z : Int) (k : Nat) (w : World) (h : k < 3) :
    Calls Try.prog 14 #[.agg #[.int .i64 x, .int .i64 y, .int .i64 z], .int .i64 k] w fun e w' => e = .returned (.tuple #[.agg #[.int .i64 (dX x y z k), .int .i64 (dY x y z k)], .int .i64 0]) ∧ Below w.heap.size w w' := by
  have q := vdrop_any x y z k w
  rw [dpX_at x y z h, dpY_at x y z h, dpE_at h] at q
  exact q
theorem cX_pt (a b c d e f : Int) {k : Nat} (h : k < 3) : cX a b c d e f k = pt (b * f - c * e) (c * d - a * f) (a * e - b * d) k := by
  rcases show k = 0 ∨ k = 1 ∨ k = 2 by omega with rfl | rfl | rfl <;> simp [cX, dX, dY, pt]

set_option maxRecDepth 100000 in
set_option maxHeartbeats 4000000 in
theorem law_along (a b c d e f : Int) (w : World) :
    Calls Try.prog 5 #[.agg #[.int .i64 a, .int .i64 b, .int .i64 c], .agg #[.int .i64 d, .int .i64 e, .int .i64 f]] w fun e' w' => e' = .returned (.bool true) ∧ Below w.heap.size w w' := by
  have X1 := Lib.hid (fun W => cross3_any a b c d e f W)
  have D1 := Lib.hid (fun k W h => vdrop_at a b c k W h)
  have D2 := Lib.hid (fun k W h => vdrop_at d e f k W h)
  have C1 := Lib.hid (fun k W => cross2_any (dX a b c k) (dY a b c k) (dX d e f k) (dY d e f k) W)
  cases ht : n3 a b c && n3 d e f with
  | false =>
    rw [ht] at X1
    rw [show xF false b c e f = 0 from rfl, show xF false c a f d = 0 from rfl, show xF false a b d e = 0 from rfl, show rE false = 5 from rfl] at X1
    clear ht
    go_enter Try.func5, Try.ntmps5
    go_upto_region 1 with fail
    have hbx := below_new1 w (.cells #[.int .i64 a, .int .i64 b, .int .i64 c] 23)
    have zx : (w.alloc (.cells #[.int .i64 a, .int .i64 b, .int .i64 c] 23)).heap.size = w.heap.size + 1 := by simp
    have HB := Lib.hid hbx
    have kx := Lib.hid (Lok.new w 23 #[.int .i64 a, .int .i64 b, .int .i64 c])
    clear hbx
    generalize w.alloc (.cells #[.int .i64 a, .int .i64 b, .int .i64 c] 23) = Vx at *
    have hby := below_new1 Vx (.cells #[.int .i64 d, .int .i64 e, .int .i64 f] 23)
    replace kx := Lib.hid (kx.out.keep hby)
    have zy : (Vx.alloc (.cells #[.int .i64 d, .int .i64 e, .int .i64 f] 23)).heap.size = Vx.heap.size + 1 := by simp
    replace HB := Lib.hid (HB.out.trans (hby.mono HB.out.size))
    have ky := Lib.hid (Lok.new Vx 23 #[.int .i64 d, .int .i64 e, .int .i64 f])
    clear hby
    generalize Vx.alloc (.cells #[.int .i64 d, .int .i64 e, .int .i64 f] 23) = Vy at *
    rw [zx] at ky
    clear zx zy
    have x0 := kx.out.cell (i := 0) rfl
    have x1 := kx.out.cell (i := 1) rfl
    have x2 := kx.out.cell (i := 2) rfl
    have y0 := ky.out.cell (i := 0) rfl
    have y1 := ky.out.cell (i := 1) rfl
    have y2 := ky.out.cell (i := 2) rfl
    go_wp2_with fail
    clear x0 x1 x2 y0 y1 y2
    ((with_reducible refine (X1.out _).mono ?_); rintro e w1 ⟨rfl, hb1⟩)
    replace HB := Lib.hid (HB.out.trans (hb1.mono HB.out.size))
    replace kx := Lib.hid (kx.out.keep hb1)
    replace ky := Lib.hid (ky.out.keep hb1)
    clear hb1
    go_upto_region 2 with fail
    have hb1 := below_new1 w1 (.cells #[.int .i64 0, .int .i64 0, .int .i64 0] 23)
    replace HB := Lib.hid (HB.out.trans (hb1.mono HB.out.size))
    replace kx := Lib.hid (kx.out.keep hb1)
    replace ky := Lib.hid (ky.out.keep hb1)
    have k1 := Lib.hid (Lok.new w1 23 #[.int .i64 0, .int .i64 0, .int .i64 0])
    clear hb1
    generalize w1.alloc (.cells #[.int .i64 0, .int .i64 0, .int .i64 0] 23) = V1 at *
    generalize w1.heap.size = g1 at *
    have a0 := k1.out.cell (i := 0) rfl
    have a1 := k1.out.cell (i := 1) rfl
    have a2 := k1.out.cell (i := 2) rfl
    go_upto_region 3 with fail
    clear a0 a1 a2
    have hbp := below_new1 V1 (.cells #[.int .i64 0, .int .i64 0, .int .i64 0] 3)
    replace kx := Lib.hid (kx.out.keep hbp)
    replace ky := Lib.hid (ky.out.keep hbp)
    have zp : (V1.alloc (.cells #[.int .i64 0, .int .i64 0, .int .i64 0] 3)).heap.size = V1.heap.size + 1 := by simp
    replace HB := Lib.hid (HB.out.trans (hbp.mono HB.out.size))
    have kp := Lib.hid (Lok.new V1 3 #[.int .i64 0, .int .i64 0, .int .i64 0])
    clear hbp
    generalize V1.alloc (.cells #[.int .i64 0, .int .i64 0, .int .i64 0] 3) = Vp at *
    clear zp
    generalize V1.heap.size = gp at *
    go_wp2_with fail
    go_loopw [8] (fun x wr => ∃ k : Nat, x = .int .i64 k ∧ k ≤ 3 ∧ Below Vp.heap.size Vp wr) (fun x _ => 3 - (intOf x).toNat)
    case atStart => exact ⟨0, rfl, Nat.zero_le _, Below.refl _ _⟩
    case round =>
      obtain ⟨k, rfl, hk, hB⟩ := hrel
      have HB0 := HB
      replace HB := Lib.hid hB
      replace kx := Lib.hid (kx.out.keep hB)
      replace ky := Lib.hid (ky.out.keep hB)
      clear hB
      by_cases hlt : k < 3
      · have E1 := Lib.hid (fun W => D1.out k W hlt)
        have E2 := Lib.hid (fun W => D2.out k W hlt)
        have F1 := Lib.hid (fun W => C1.out k W)
        clear D1 D2 C1
        generalize xF _ _ _ _ _ = X at *
        generalize rE _ = R at *
        generalize dX a b c k = p at *
        generalize dY a b c k = q at *
        generalize dX d e f k = s at *
        generalize dY d e f k = t at *
        have i0 : (0 : Int) ≤ (k : Int) := by omega
        have i1 : (k : Int) < 3 := by omega
        have i2 : ((k : Int)).toNat = k := by omega
        have x0 := kx.out.cell (i := 0) rfl
        have x1 := kx.out.cell (i := 1) rfl
        have x2 := kx.out.cell (i := 2) rfl
        go_wp2_with fail
        clear x0 x1 x2
        ((with_reducible refine (E1.out _).mono ?_); rintro e w1 ⟨rfl, hb1⟩)
        replace HB := Lib.hid (HB.out.trans (hb1.mono HB.out.size))
        replace ky := Lib.hid (ky.out.keep hb1)
        clear hb1
        go_upto_region 7 with fail
        have hb1 := below_new1 w1 (.cells #[.int .i64 p, .int .i64 q] 25)
        replace HB := Lib.hid (HB.out.trans (hb1.mono HB.out.size))
        replace ky := Lib.hid (ky.out.keep hb1)
        have k1 := Lib.hid (Lok.new w1 25 #[.int .i64 p, .int .i64 q])
        clear hb1
        generalize w1.alloc (.cells #[.int .i64 p, .int .i64 q] 25) = V1 at *
        generalize w1.heap.size = g1 at *
        have y0 := ky.out.cell (i := 0) rfl
        have y1 := ky.out.cell (i := 1) rfl
        have y2 := ky.out.cell (i := 2) rfl
        go_wp2_with fail
        clear y0 y1 y2
        ((with_reducible refine (E2.out _).mono ?_); rintro e w2 ⟨rfl, hb2⟩)
        replace HB := Lib.hid (HB.out.trans (hb2.mono HB.out.size))
        replace k1 := Lib.hid (k1.out.keep hb2)
        clear hb2
        go_upto_region 8 with fail
        have hb2 := below_new1 w2 (.cells #[.int .i64 s, .int .i64 t] 25)
        replace HB := Lib.hid (HB.out.trans (hb2.mono HB.out.size))
        replace k1 := Lib.hid (k1.out.keep hb2)
        have k2 := Lib.hid (Lok.new w2 25 #[.int .i64 s, .int .i64 t])
        clear hb2
        generalize w2.alloc (.cells #[.int .i64 s, .int .i64 t] 25) = V2 at *
        generalize w2.heap.size = g2 at *
        have a0 := k1.out.cell (i := 0) rfl
        have a1 := k1.out.cell (i := 1) rfl
        have b0 := k2.out.cell (i := 0) rfl
        have b1 := k2.out.cell (i := 1) rfl
        go_wp2_with fail
        clear a0 a1 b0 b1
        (((with_reducible refine (F1.out _).mono ?_); rintro e w3 ⟨rfl, hb3⟩); replace HB := Lib.hid (HB.out.trans (hb3.mono HB.out.size)); clear hb3)
        go_wp2
        go_roundw
        case rel => exact ⟨k + 1, by go_num, hlt, HB.out⟩
        case measure => simp [intOf]; omega
      · obtain rfl : k = 3 := by omega
        go_wp2_with fail
        (((with_reducible refine (crossed_any _).mono ?_); rintro e w9 ⟨rfl, hb9⟩); replace HB := Lib.hid (HB.out.trans (hb9.mono HB.out.size)); clear hb9)
        go_wp2
        go_ret
        exact ⟨rfl, HB0.out.trans (HB.out.mono HB0.out.size)⟩
  | true =>
    rw [ht] at X1
    rw [show xF true b c e f = b * f - c * e from rfl, show xF true c a f d = c * d - a * f from rfl, show xF true a b d e = a * e - b * d from rfl, show rE true = 0 from rfl] at X1
    rw [Bool.and_eq_true, n3_iff, n3_iff] at ht
    have N1 := drop_near ht.1.1 ht.1.2.1 ht.1.2.2
    have N2 := drop_near ht.2.1 ht.2.2.1 ht.2.2.2
    have PT := Lib.hid (fun k h => cX_pt a b c d e f (k := k) h)
    replace C1 : Hid (∀ k W, Calls Try.prog 10 #[.agg #[.int .i64 (dX a b c k), .int .i64 (dY a b c k)], .agg #[.int .i64 (dX d e f k), .int .i64 (dY d e f k)]] W fun e' w' => e' = .returned (.tuple #[.int .i64 (cX a b c d e f k), .int .i64 0]) ∧ Below W.heap.size W w') := Lib.hid (fun k W => by
      have q := C1.out k W
      rw [N1 k, N2 k] at q
      exact q)
    clear ht N1 N2
    generalize b * f - c * e = p at *
    generalize c * d - a * f = q at *
    generalize a * e - b * d = r at *
    go_enter Try.func5, Try.ntmps5
    go_upto_region 1 with fail
    have hbx := below_new1 w (.cells #[.int .i64 a, .int .i64 b, .int .i64 c] 23)
    have zx : (w.alloc (.cells #[.int .i64 a, .int .i64 b, .int .i64 c] 23)).heap.size = w.heap.size + 1 := by simp
    have HB := Lib.hid hbx
    have kx := Lib.hid (Lok.new w 23 #[.int .i64 a, .int .i64 b, .int .i64 c])
    clear hbx
    generalize w.alloc (.cells #[.int .i64 a, .int .i64 b, .int .i64 c] 23) = Vx at *
    have hby := below_new1 Vx (.cells #[.int .i64 d, .int .i64 e, .int .i64 f] 23)
    replace kx := Lib.hid (kx.out.keep hby)
    have zy : (Vx.alloc (.cells #[.int .i64 d, .int .i64 e, .int .i64 f] 23)).heap.size = Vx.heap.size + 1 := by simp
    replace HB := Lib.hid (HB.out.trans (hby.mono HB.out.size))
    have ky := Lib.hid (Lok.new Vx 23 #[.int .i64 d, .int .i64 e, .int .i64 f])
    clear hby
    generalize Vx.alloc (.cells #[.int .i64 d, .int .i64 e, .int .i64 f] 23) = Vy at *
    rw [zx] at ky
    clear zx zy
    have x0 := kx.out.cell (i := 0) rfl
    have x1 := kx.out.cell (i := 1) rfl
    have x2 := kx.out.cell (i := 2) rfl
    have y0 := ky.out.cell (i := 0) rfl
    have y1 := ky.out.cell (i := 1) rfl
    have y2 := ky.out.cell (i := 2) rfl
    go_wp2_with fail
    clear x0 x1 x2 y0 y1 y2
    ((with_reducible refine (X1.out _).mono ?_); rintro e w1 ⟨rfl, hb1⟩)
    replace HB := Lib.hid (HB.out.trans (hb1.mono HB.out.size))
    replace kx := Lib.hid (kx.out.keep hb1)
    replace ky := Lib.hid (ky.out.keep hb1)
    clear hb1
    go_upto_region 2 with fail
    have hb1 := below_new1 w1 (.cells #[.int .i64 p, .int .i64 q, .int .i64 r] 23)
    replace HB := Lib.hid (HB.out.trans (hb1.mono HB.out.size))
    replace kx := Lib.hid (kx.out.keep hb1)
    replace ky := Lib.hid (ky.out.keep hb1)
    have k1 := Lib.hid (Lok.new w1 23 #[.int .i64 p, .int .i64 q, .int .i64 r])
    clear hb1
    generalize w1.alloc (.cells #[.int .i64 p, .int .i64 q, .int .i64 r] 23) = V1 at *
    generalize w1.heap.size = g1 at *
    have a0 := k1.out.cell (i := 0) rfl
    have a1 := k1.out.cell (i := 1) rfl
    have a2 := k1.out.cell (i := 2) rfl
    go_upto_region 3 with fail
    clear a0 a1 a2
    have hbp := below_new1 V1 (.cells #[.int .i64 p, .int .i64 q, .int .i64 r] 3)
    replace kx := Lib.hid (kx.out.keep hbp)
    replace ky := Lib.hid (ky.out.keep hbp)
    have zp : (V1.alloc (.cells #[.int .i64 p, .int .i64 q, .int .i64 r] 3)).heap.size = V1.heap.size + 1 := by simp
    replace HB := Lib.hid (HB.out.trans (hbp.mono HB.out.size))
    have kp := Lib.hid (Lok.new V1 3 #[.int .i64 p, .int .i64 q, .int .i64 r])
    clear hbp
    generalize V1.alloc (.cells #[.int .i64 p, .int .i64 q, .int .i64 r] 3) = Vp at *
    clear zp
    generalize V1.heap.size = gp at *
    go_wp2_with fail
    go_loopw [8] (fun x wr => ∃ k : Nat, x = .int .i64 k ∧ k ≤ 3 ∧ Below Vp.heap.size Vp wr) (fun x _ => 3 - (intOf x).toNat)
    case atStart => exact ⟨0, rfl, Nat.zero_le _, Below.refl _ _⟩
    case round =>
      obtain ⟨k, rfl, hk, hB⟩ := hrel
      have HB0 := HB
      replace HB := Lib.hid hB
      replace kx := Lib.hid (kx.out.keep hB)
      replace ky := Lib.hid (ky.out.keep hB)
      replace kp := Lib.hid (kp.out.keep hB)
      clear hB
      by_cases hlt : k < 3
      · have E1 := Lib.hid (fun W => D1.out k W hlt)
        have E2 := Lib.hid (fun W => D2.out k W hlt)
        have F1 := Lib.hid (fun W => C1.out k W)
        have PA := Lib.hid (pt_at p q r hlt)
        rw [PT.out k hlt] at F1
        clear D1 D2 C1 PT
        generalize pt p q r k = X at *
        generalize dX a b c k = i at *
        generalize dY a b c k = j at *
        generalize dX d e f k = s at *
        generalize dY d e f k = t at *
        have i0 : (0 : Int) ≤ (k : Int) := by omega
        have i1 : (k : Int) < 3 := by omega
        have i2 : ((k : Int)).toNat = k := by omega
        have x0 := kx.out.cell (i := 0) rfl
        have x1 := kx.out.cell (i := 1) rfl
        have x2 := kx.out.cell (i := 2) rfl
        go_wp2_with fail
        clear x0 x1 x2
        ((with_reducible refine (E1.out _).mono ?_); rintro e w1 ⟨rfl, hb1⟩)
        replace HB := Lib.hid (HB.out.trans (hb1.mono HB.out.size))
        replace ky := Lib.hid (ky.out.keep hb1)
        replace kp := Lib.hid (kp.out.keep hb1)
        clear hb1
        go_upto_region 7 with fail
        have hb1 := below_new1 w1 (.cells #[.int .i64 i, .int .i64 j] 25)
        replace HB := Lib.hid (HB.out.trans (hb1.mono HB.out.size))
        replace ky := Lib.hid (ky.out.keep hb1)
        replace kp := Lib.hid (kp.out.keep hb1)
        have k1 := Lib.hid (Lok.new w1 25 #[.int .i64 i, .int .i64 j])
        clear hb1
        generalize w1.alloc (.cells #[.int .i64 i, .int .i64 j] 25) = V1 at *
        generalize w1.heap.size = g1 at *
        have y0 := ky.out.cell (i := 0) rfl
        have y1 := ky.out.cell (i := 1) rfl
        have y2 := ky.out.cell (i := 2) rfl
        go_wp2_with fail
        clear y0 y1 y2
        ((with_reducible refine (E2.out _).mono ?_); rintro e w2 ⟨rfl, hb2⟩)
        replace HB := Lib.hid (HB.out.trans (hb2.mono HB.out.size))
        replace k1 := Lib.hid (k1.out.keep hb2)
        replace kp := Lib.hid (kp.out.keep hb2)
        clear hb2
        go_upto_region 8 with fail
        have hb2 := below_new1 w2 (.cells #[.int .i64 s, .int .i64 t] 25)
        replace HB := Lib.hid (HB.out.trans (hb2.mono HB.out.size))
        replace k1 := Lib.hid (k1.out.keep hb2)
        replace kp := Lib.hid (kp.out.keep hb2)
        have k2 := Lib.hid (Lok.new w2 25 #[.int .i64 s, .int .i64 t])
        clear hb2
        generalize w2.alloc (.cells #[.int .i64 s, .int .i64 t] 25) = V2 at *
        generalize w2.heap.size = g2 at *
        have a0 := k1.out.cell (i := 0) rfl
        have a1 := k1.out.cell (i := 1) rfl
        have b0 := k2.out.cell (i := 0) rfl
        have b1 := k2.out.cell (i := 1) rfl
        go_wp2_with fail
        clear a0 a1 b0 b1
        (((with_reducible refine (F1.out _).mono ?_); rintro e w3 ⟨rfl, hb3⟩); replace HB := Lib.hid (HB.out.trans (hb3.mono HB.out.size)); replace kp := Lib.hid (kp.out.keep hb3); clear hb3)
        have p0 := kp.out.cell PA.out
        go_wp2
        go_roundw
        case rel => exact ⟨k + 1, by go_num, hlt, HB.out⟩
        case measure => simp [intOf]; omega
      · obtain rfl : k = 3 := by omega
        go_wp2_with fail
        (((with_reducible refine (crossed_any _).mono ?_); rintro e w9 ⟨rfl, hb9⟩); replace HB := Lib.hid (HB.out.trans (hb9.mono HB.out.size)); clear hb9)
        go_wp2
        go_ret
        exact ⟨rfl, HB0.out.trans (HB.out.mono HB0.out.size)⟩
end Go.Proofs.Ytmejipfejdckiaa
