import Derived.Test.YtcnbbanpnoigdaaGreatHd
namespace Go.Proofs.YtcnbbanpnoigdaaGreat
open Go.RowKit

set_option maxRecDepth 100000 in
set_option maxHeartbeats 1000000 in
theorem rsmall2_any (x y : Int) (w : World) :
  Calls Tryz.prog 102 #[.agg #[.int .i64 x, .int .i64 y]] w fun e' w' => e' = .returned (.bool (s2 x y)) ∧ Below w.heap.size w w' := by
 have HB := Lib.hid (Below.refl w.heap.size w)
 by_cases h0 : -4096 ≤ x
 ·by_cases h1 : x ≤ 4096
  ·by_cases h2 : -4096 ≤ y
   ·by_cases h3 : y ≤ 4096
    ·rw [show s2 x y = true from s2_iff.2 ⟨⟨h0, h1⟩, ⟨h2, h3⟩⟩]
     go_enter Tryz.func102, Tryz.ntmps102
     go_upto_region 1 with fail
     have hbp := below_new1 w (.cells #[.int .i64 x, .int .i64 y] 36)
     have zp : (w.alloc (.cells #[.int .i64 x, .int .i64 y] 36)).heap.size = w.heap.size + 1 := by simp
     have HB := Lib.hid hbp;have kp := Lib.hid (Lok.new w 36 #[.int .i64 x, .int .i64 y]);clear hbp;generalize w.alloc (.cells #[.int .i64 x, .int .i64 y] 36) = Vp at *;clear zp;have p0 := kp.out.cell (i := 0) rfl;have p1 := kp.out.cell (i := 1) rfl
     go_wp2
     go_ret
     exact ⟨rfl, HB.out⟩
    ·rw [show s2 x y = false from by cases e : s2 x y with | false => rfl | true => exact absurd (s2_iff.1 e) (fun h => h3 (h.2.2))]
     have d3 : decide (y ≤ 4096) = false := decide_eq_false h3
     go_enter Tryz.func102, Tryz.ntmps102
     go_upto_region 1 with fail
     have hbp := below_new1 w (.cells #[.int .i64 x, .int .i64 y] 36)
     have zp : (w.alloc (.cells #[.int .i64 x, .int .i64 y] 36)).heap.size = w.heap.size + 1 := by simp
     have HB := Lib.hid hbp;have kp := Lib.hid (Lok.new w 36 #[.int .i64 x, .int .i64 y]);clear hbp;generalize w.alloc (.cells #[.int .i64 x, .int .i64 y] 36) = Vp at *;clear zp;have p0 := kp.out.cell (i := 0) rfl;have p1 := kp.out.cell (i := 1) rfl
     go_wp2
     go_ret
     exact ⟨rfl, HB.out⟩
   ·rw [show s2 x y = false from by cases e : s2 x y with | false => rfl | true => exact absurd (s2_iff.1 e) (fun h => h2 (h.2.1))]
    have d2 : decide (-4096 ≤ y) = false := decide_eq_false h2
    go_enter Tryz.func102, Tryz.ntmps102
    go_upto_region 1 with fail
    have hbp := below_new1 w (.cells #[.int .i64 x, .int .i64 y] 36)
    have zp : (w.alloc (.cells #[.int .i64 x, .int .i64 y] 36)).heap.size = w.heap.size + 1 := by simp
    have HB := Lib.hid hbp;have kp := Lib.hid (Lok.new w 36 #[.int .i64 x, .int .i64 y]);clear hbp;generalize w.alloc (.cells #[.int .i64 x, .int .i64 y] 36) = Vp at *;clear zp;have p0 := kp.out.cell (i := 0) rfl;have p1 := kp.out.cell (i := 1) rfl
    go_wp2
    go_ret
    exact ⟨rfl, HB.out⟩
  ·rw [show s2 x y = false from by cases e : s2 x y with | false => rfl | true => exact absurd (s2_iff.1 e) (fun h => h1 (h.1.2))]
   have d1 : decide (x ≤ 4096) = false := decide_eq_false h1
   go_enter Tryz.func102, Tryz.ntmps102
   go_upto_region 1 with fail
   have hbp := below_new1 w (.cells #[.int .i64 x, .int .i64 y] 36)
   have zp : (w.alloc (.cells #[.int .i64 x, .int .i64 y] 36)).heap.size = w.heap.size + 1 := by simp
   have HB := Lib.hid hbp;have kp := Lib.hid (Lok.new w 36 #[.int .i64 x, .int .i64 y]);clear hbp;generalize w.alloc (.cells #[.int .i64 x, .int .i64 y] 36) = Vp at *;clear zp;have p0 := kp.out.cell (i := 0) rfl;have p1 := kp.out.cell (i := 1) rfl
   go_wp2
   go_ret
   exact ⟨rfl, HB.out⟩
 ·rw [show s2 x y = false from by cases e : s2 x y with | false => rfl | true => exact absurd (s2_iff.1 e) (fun h => h0 (h.1.1))]
  have d0 : decide (-4096 ≤ x) = false := decide_eq_false h0
  go_enter Tryz.func102, Tryz.ntmps102
  go_upto_region 1 with fail
  have hbp := below_new1 w (.cells #[.int .i64 x, .int .i64 y] 36)
  have zp : (w.alloc (.cells #[.int .i64 x, .int .i64 y] 36)).heap.size = w.heap.size + 1 := by simp
  have HB := Lib.hid hbp;have kp := Lib.hid (Lok.new w 36 #[.int .i64 x, .int .i64 y]);clear hbp;generalize w.alloc (.cells #[.int .i64 x, .int .i64 y] 36) = Vp at *;clear zp;have p0 := kp.out.cell (i := 0) rfl;have p1 := kp.out.cell (i := 1) rfl
  go_wp2
  go_ret
  exact ⟨rfl, HB.out⟩
set_option maxRecDepth 100000 in
set_option maxHeartbeats 1000000 in
theorem rsmall3_any (x y z : Int) (w : World) :
  Calls Tryz.prog 73 #[.agg #[.int .i64 x, .int .i64 y, .int .i64 z]] w fun e' w' => e' = .returned (.bool (s3 x y z)) ∧ Below w.heap.size w w' := by
 have HB := Lib.hid (Below.refl w.heap.size w)
 by_cases h0 : -16384 ≤ x
 ·by_cases h1 : x ≤ 16384
  ·by_cases h2 : -16384 ≤ y
   ·by_cases h3 : y ≤ 16384
    ·by_cases h4 : -16384 ≤ z
     ·by_cases h5 : z ≤ 16384
      ·rw [show s3 x y z = true from s3_iff.2 ⟨⟨h0, h1⟩, ⟨h2, h3⟩, ⟨h4, h5⟩⟩]
       go_enter Tryz.func73, Tryz.ntmps73
       go_upto_region 1 with fail
       have hbp := below_new1 w (.cells #[.int .i64 x, .int .i64 y, .int .i64 z] 57)
       have zp : (w.alloc (.cells #[.int .i64 x, .int .i64 y, .int .i64 z] 57)).heap.size = w.heap.size + 1 := by simp
       have HB := Lib.hid hbp;have kp := Lib.hid (Lok.new w 57 #[.int .i64 x, .int .i64 y, .int .i64 z]);clear hbp;generalize w.alloc (.cells #[.int .i64 x, .int .i64 y, .int .i64 z] 57) = Vp at *;clear zp;have p0 := kp.out.cell (i := 0) rfl;have p1 := kp.out.cell (i := 1) rfl;have p2 := kp.out.cell (i := 2) rfl
       go_wp2
       go_ret
       exact ⟨rfl, HB.out⟩
      ·rw [show s3 x y z = false from by cases e : s3 x y z with | false => rfl | true => exact absurd (s3_iff.1 e) (fun h => h5 (h.2.2.2))]
       have d5 : decide (z ≤ 16384) = false := decide_eq_false h5
       go_enter Tryz.func73, Tryz.ntmps73
       go_upto_region 1 with fail
       have hbp := below_new1 w (.cells #[.int .i64 x, .int .i64 y, .int .i64 z] 57)
       have zp : (w.alloc (.cells #[.int .i64 x, .int .i64 y, .int .i64 z] 57)).heap.size = w.heap.size + 1 := by simp
       have HB := Lib.hid hbp;have kp := Lib.hid (Lok.new w 57 #[.int .i64 x, .int .i64 y, .int .i64 z]);clear hbp;generalize w.alloc (.cells #[.int .i64 x, .int .i64 y, .int .i64 z] 57) = Vp at *;clear zp;have p0 := kp.out.cell (i := 0) rfl;have p1 := kp.out.cell (i := 1) rfl;have p2 := kp.out.cell (i := 2) rfl
       go_wp2
       go_ret
       exact ⟨rfl, HB.out⟩
     ·rw [show s3 x y z = false from by cases e : s3 x y z with | false => rfl | true => exact absurd (s3_iff.1 e) (fun h => h4 (h.2.2.1))]
      have d4 : decide (-16384 ≤ z) = false := decide_eq_false h4
      go_enter Tryz.func73, Tryz.ntmps73
      go_upto_region 1 with fail
      have hbp := below_new1 w (.cells #[.int .i64 x, .int .i64 y, .int .i64 z] 57)
      have zp : (w.alloc (.cells #[.int .i64 x, .int .i64 y, .int .i64 z] 57)).heap.size = w.heap.size + 1 := by simp
      have HB := Lib.hid hbp;have kp := Lib.hid (Lok.new w 57 #[.int .i64 x, .int .i64 y, .int .i64 z]);clear hbp;generalize w.alloc (.cells #[.int .i64 x, .int .i64 y, .int .i64 z] 57) = Vp at *;clear zp;have p0 := kp.out.cell (i := 0) rfl;have p1 := kp.out.cell (i := 1) rfl;have p2 := kp.out.cell (i := 2) rfl
      go_wp2
      go_ret
      exact ⟨rfl, HB.out⟩
    ·rw [show s3 x y z = false from by cases e : s3 x y z with | false => rfl | true => exact absurd (s3_iff.1 e) (fun h => h3 (h.2.1.2))]
     have d3 : decide (y ≤ 16384) = false := decide_eq_false h3
     go_enter Tryz.func73, Tryz.ntmps73
     go_upto_region 1 with fail
     have hbp := below_new1 w (.cells #[.int .i64 x, .int .i64 y, .int .i64 z] 57)
     have zp : (w.alloc (.cells #[.int .i64 x, .int .i64 y, .int .i64 z] 57)).heap.size = w.heap.size + 1 := by simp
     have HB := Lib.hid hbp;have kp := Lib.hid (Lok.new w 57 #[.int .i64 x, .int .i64 y, .int .i64 z]);clear hbp;generalize w.alloc (.cells #[.int .i64 x, .int .i64 y, .int .i64 z] 57) = Vp at *;clear zp;have p0 := kp.out.cell (i := 0) rfl;have p1 := kp.out.cell (i := 1) rfl;have p2 := kp.out.cell (i := 2) rfl
     go_wp2
     go_ret
     exact ⟨rfl, HB.out⟩
   ·rw [show s3 x y z = false from by cases e : s3 x y z with | false => rfl | true => exact absurd (s3_iff.1 e) (fun h => h2 (h.2.1.1))]
    have d2 : decide (-16384 ≤ y) = false := decide_eq_false h2
    go_enter Tryz.func73, Tryz.ntmps73
    go_upto_region 1 with fail
    have hbp := below_new1 w (.cells #[.int .i64 x, .int .i64 y, .int .i64 z] 57)
    have zp : (w.alloc (.cells #[.int .i64 x, .int .i64 y, .int .i64 z] 57)).heap.size = w.heap.size + 1 := by simp
    have HB := Lib.hid hbp;have kp := Lib.hid (Lok.new w 57 #[.int .i64 x, .int .i64 y, .int .i64 z]);clear hbp;generalize w.alloc (.cells #[.int .i64 x, .int .i64 y, .int .i64 z] 57) = Vp at *;clear zp;have p0 := kp.out.cell (i := 0) rfl;have p1 := kp.out.cell (i := 1) rfl;have p2 := kp.out.cell (i := 2) rfl
    go_wp2
    go_ret
    exact ⟨rfl, HB.out⟩
  ·rw [show s3 x y z = false from by cases e : s3 x y z with | false => rfl | true => exact absurd (s3_iff.1 e) (fun h => h1 (h.1.2))]
   have d1 : decide (x ≤ 16384) = false := decide_eq_false h1
   go_enter Tryz.func73, Tryz.ntmps73
   go_upto_region 1 with fail
   have hbp := below_new1 w (.cells #[.int .i64 x, .int .i64 y, .int .i64 z] 57)
   have zp : (w.alloc (.cells #[.int .i64 x, .int .i64 y, .int .i64 z] 57)).heap.size = w.heap.size + 1 := by simp
   have HB := Lib.hid hbp;have kp := Lib.hid (Lok.new w 57 #[.int .i64 x, .int .i64 y, .int .i64 z]);clear hbp;generalize w.alloc (.cells #[.int .i64 x, .int .i64 y, .int .i64 z] 57) = Vp at *;clear zp;have p0 := kp.out.cell (i := 0) rfl;have p1 := kp.out.cell (i := 1) rfl;have p2 := kp.out.cell (i := 2) rfl
   go_wp2
   go_ret
   exact ⟨rfl, HB.out⟩
 ·rw [show s3 x y z = false from by cases e : s3 x y z with | false => rfl | true => exact absurd (s3_iff.1 e) (fun h => h0 (h.1.1))]
  have d0 : decide (-16384 ≤ x) = false := decide_eq_false h0
  go_enter Tryz.func73, Tryz.ntmps73
  go_upto_region 1 with fail
  have hbp := below_new1 w (.cells #[.int .i64 x, .int .i64 y, .int .i64 z] 57)
  have zp : (w.alloc (.cells #[.int .i64 x, .int .i64 y, .int .i64 z] 57)).heap.size = w.heap.size + 1 := by simp
  have HB := Lib.hid hbp;have kp := Lib.hid (Lok.new w 57 #[.int .i64 x, .int .i64 y, .int .i64 z]);clear hbp;generalize w.alloc (.cells #[.int .i64 x, .int .i64 y, .int .i64 z] 57) = Vp at *;clear zp;have p0 := kp.out.cell (i := 0) rfl;have p1 := kp.out.cell (i := 1) rfl;have p2 := kp.out.cell (i := 2) rfl
  go_wp2
  go_ret
  exact ⟨rfl, HB.out⟩
set_option maxRecDepth 100000 in
set_option maxHeartbeats 1000000 in
theorem rside_any (n : Int) (w : World) :
  Calls Tryz.prog 53 #[.int .i64 n] w fun e w' => e = .returned (.int .i64 (ordI n 0)) ∧ Below w.heap.size w w' := by
 rcases ordI_ways n 0 with ⟨h, e⟩ | ⟨h, e⟩ | ⟨h, e⟩ <;> rw [e] <;> clear e
 ·have d1 : decide (n < 0) = true := decide_eq_true h
  go_enter Tryz.func53, Tryz.ntmps53
  go_wp2
  go_ret
  exact ⟨rfl, by (repeat (first | exact Below.refl _ _ | assumption | refine Below.drew ?_ | refine below_drewN ?_ _ | refine Below.setCell ?_ (by first | omega | (simp; done) | (simp; omega)) _ | refine Below.alloc ?_ (by first | omega | (simp; done) | (simp; omega)) _))⟩
 ·have d1 : decide (n < 0) = false := decide_eq_false (by omega)
  have d2 : decide (0 < n) = false := decide_eq_false (by omega)
  go_enter Tryz.func53, Tryz.ntmps53
  go_wp2
  go_ret
  exact ⟨rfl, by (repeat (first | exact Below.refl _ _ | assumption | refine Below.drew ?_ | refine below_drewN ?_ _ | refine Below.setCell ?_ (by first | omega | (simp; done) | (simp; omega)) _ | refine Below.alloc ?_ (by first | omega | (simp; done) | (simp; omega)) _))⟩
 ·have d1 : decide (n < 0) = false := decide_eq_false (by omega)
  have d2 : decide (0 < n) = true := decide_eq_true h
  go_enter Tryz.func53, Tryz.ntmps53
  go_wp2
  go_ret
  exact ⟨rfl, by (repeat (first | exact Below.refl _ _ | assumption | refine Below.drew ?_ | refine below_drewN ?_ _ | refine Below.setCell ?_ (by first | omega | (simp; done) | (simp; omega)) _ | refine Below.alloc ?_ (by first | omega | (simp; done) | (simp; omega)) _))⟩
set_option maxRecDepth 100000 in
set_option maxHeartbeats 4000000 in
theorem rarea_any (a1 a2 b1 b2 c1 c2 : Int) (t : Bool) (ht : (s2 a1 a2 && s2 b1 b2 && s2 c1 c2) = t) (w : World) :
  Calls Tryz.prog 85 #[.agg #[.int .i64 a1, .int .i64 a2], .agg #[.int .i64 b1, .int .i64 b2], .agg #[.int .i64 c1, .int .i64 c2]] w fun e' w' => e' = .returned (.tuple #[.int .i64 (vF t (ar a1 a2 b1 b2 c1 c2)), .int .i64 (rE t)]) ∧ Below w.heap.size w w' := by
 subst ht;have HB := Lib.hid (Below.refl w.heap.size w);have S1 := Lib.hid (fun W => rsmall2_any a1 a2 W);have S2 := Lib.hid (fun W => rsmall2_any b1 b2 W);have S3 := Lib.hid (fun W => rsmall2_any c1 c2 W)
 cases h1 : s2 a1 a2 with
 | false =>
  rw [h1] at S1
  skip
  show Calls _ _ _ _ fun e' w' => e' = .returned (.tuple #[.int .i64 0, .int .i64 5]) ∧ _
  clear h1
  go_enter Tryz.func85, Tryz.ntmps85
  go_upto_region 1 with fail
  have hbx := below_new1 w (.cells #[.int .i64 a1, .int .i64 a2] 36)
  have zx : (w.alloc (.cells #[.int .i64 a1, .int .i64 a2] 36)).heap.size = w.heap.size + 1 := by simp
  have HB := Lib.hid hbx;have kx := Lib.hid (Lok.new w 36 #[.int .i64 a1, .int .i64 a2]);clear hbx;generalize w.alloc (.cells #[.int .i64 a1, .int .i64 a2] 36) = Vx at *;have hby := below_new1 Vx (.cells #[.int .i64 b1, .int .i64 b2] 36);replace kx := Lib.hid (kx.out.keep hby)
  have zy : (Vx.alloc (.cells #[.int .i64 b1, .int .i64 b2] 36)).heap.size = Vx.heap.size + 1 := by simp
  replace HB := Lib.hid (HB.out.trans (hby.mono HB.out.size));have ky := Lib.hid (Lok.new Vx 36 #[.int .i64 b1, .int .i64 b2]);clear hby;generalize Vx.alloc (.cells #[.int .i64 b1, .int .i64 b2] 36) = Vy at *;rw [zx] at ky zy;have hbz := below_new1 Vy (.cells #[.int .i64 c1, .int .i64 c2] 36);replace kx := Lib.hid (kx.out.keep hbz);replace ky := Lib.hid (ky.out.keep hbz)
  have zz : (Vy.alloc (.cells #[.int .i64 c1, .int .i64 c2] 36)).heap.size = Vy.heap.size + 1 := by simp
  replace HB := Lib.hid (HB.out.trans (hbz.mono HB.out.size));have kz := Lib.hid (Lok.new Vy 36 #[.int .i64 c1, .int .i64 c2]);clear hbz;generalize Vy.alloc (.cells #[.int .i64 c1, .int .i64 c2] 36) = Vz at *;rw [zy] at kz;clear zx zy zz;have x0 := kx.out.cell (i := 0) rfl;have x1 := kx.out.cell (i := 1) rfl
  go_wp2_with fail
  clear x0 x1
  (((with_reducible refine (S1.out _).mono ?_); rintro e w1 ⟨rfl, hb1⟩); replace HB := Lib.hid (HB.out.trans (hb1.mono HB.out.size)); replace kx := Lib.hid (kx.out.keep hb1); replace ky := Lib.hid (ky.out.keep hb1); replace kz := Lib.hid (kz.out.keep hb1); clear hb1)
  go_wp2
  go_ret2
  exact ⟨rfl, HB.out⟩
 | true =>
  rw [h1] at S1
  cases h2 : s2 b1 b2 with
  | false =>
   rw [h2] at S2
   skip
   show Calls _ _ _ _ fun e' w' => e' = .returned (.tuple #[.int .i64 0, .int .i64 5]) ∧ _
   clear h1 h2
   go_enter Tryz.func85, Tryz.ntmps85
   go_upto_region 1 with fail
   have hbx := below_new1 w (.cells #[.int .i64 a1, .int .i64 a2] 36)
   have zx : (w.alloc (.cells #[.int .i64 a1, .int .i64 a2] 36)).heap.size = w.heap.size + 1 := by simp
   have HB := Lib.hid hbx;have kx := Lib.hid (Lok.new w 36 #[.int .i64 a1, .int .i64 a2]);clear hbx;generalize w.alloc (.cells #[.int .i64 a1, .int .i64 a2] 36) = Vx at *;have hby := below_new1 Vx (.cells #[.int .i64 b1, .int .i64 b2] 36);replace kx := Lib.hid (kx.out.keep hby)
   have zy : (Vx.alloc (.cells #[.int .i64 b1, .int .i64 b2] 36)).heap.size = Vx.heap.size + 1 := by simp
   replace HB := Lib.hid (HB.out.trans (hby.mono HB.out.size));have ky := Lib.hid (Lok.new Vx 36 #[.int .i64 b1, .int .i64 b2]);clear hby;generalize Vx.alloc (.cells #[.int .i64 b1, .int .i64 b2] 36) = Vy at *;rw [zx] at ky zy;have hbz := below_new1 Vy (.cells #[.int .i64 c1, .int .i64 c2] 36);replace kx := Lib.hid (kx.out.keep hbz);replace ky := Lib.hid (ky.out.keep hbz)
   have zz : (Vy.alloc (.cells #[.int .i64 c1, .int .i64 c2] 36)).heap.size = Vy.heap.size + 1 := by simp
   replace HB := Lib.hid (HB.out.trans (hbz.mono HB.out.size));have kz := Lib.hid (Lok.new Vy 36 #[.int .i64 c1, .int .i64 c2]);clear hbz;generalize Vy.alloc (.cells #[.int .i64 c1, .int .i64 c2] 36) = Vz at *;rw [zy] at kz;clear zx zy zz;have x0 := kx.out.cell (i := 0) rfl;have x1 := kx.out.cell (i := 1) rfl
   go_wp2_with fail
   clear x0 x1
   (((with_reducible refine (S1.out _).mono ?_); rintro e w1 ⟨rfl, hb1⟩); replace HB := Lib.hid (HB.out.trans (hb1.mono HB.out.size)); replace kx := Lib.hid (kx.out.keep hb1); replace ky := Lib.hid (ky.out.keep hb1); replace kz := Lib.hid (kz.out.keep hb1); clear hb1)
   have y0 := ky.out.cell (i := 0) rfl;have y1 := ky.out.cell (i := 1) rfl
   go_wp2_with fail
   clear y0 y1
   (((with_reducible refine (S2.out _).mono ?_); rintro e w2 ⟨rfl, hb2⟩); replace HB := Lib.hid (HB.out.trans (hb2.mono HB.out.size)); replace kx := Lib.hid (kx.out.keep hb2); replace ky := Lib.hid (ky.out.keep hb2); replace kz := Lib.hid (kz.out.keep hb2); clear hb2)
   go_wp2
   go_ret2
   exact ⟨rfl, HB.out⟩
  | true =>
   rw [h2] at S2
   cases h3 : s2 c1 c2 with
   | false =>
    rw [h3] at S3
    skip
    show Calls _ _ _ _ fun e' w' => e' = .returned (.tuple #[.int .i64 0, .int .i64 5]) ∧ _
    clear h1 h2 h3
    go_enter Tryz.func85, Tryz.ntmps85
    go_upto_region 1 with fail
    have hbx := below_new1 w (.cells #[.int .i64 a1, .int .i64 a2] 36)
    have zx : (w.alloc (.cells #[.int .i64 a1, .int .i64 a2] 36)).heap.size = w.heap.size + 1 := by simp
    have HB := Lib.hid hbx;have kx := Lib.hid (Lok.new w 36 #[.int .i64 a1, .int .i64 a2]);clear hbx;generalize w.alloc (.cells #[.int .i64 a1, .int .i64 a2] 36) = Vx at *;have hby := below_new1 Vx (.cells #[.int .i64 b1, .int .i64 b2] 36);replace kx := Lib.hid (kx.out.keep hby)
    have zy : (Vx.alloc (.cells #[.int .i64 b1, .int .i64 b2] 36)).heap.size = Vx.heap.size + 1 := by simp
    replace HB := Lib.hid (HB.out.trans (hby.mono HB.out.size));have ky := Lib.hid (Lok.new Vx 36 #[.int .i64 b1, .int .i64 b2]);clear hby;generalize Vx.alloc (.cells #[.int .i64 b1, .int .i64 b2] 36) = Vy at *;rw [zx] at ky zy;have hbz := below_new1 Vy (.cells #[.int .i64 c1, .int .i64 c2] 36);replace kx := Lib.hid (kx.out.keep hbz);replace ky := Lib.hid (ky.out.keep hbz)
    have zz : (Vy.alloc (.cells #[.int .i64 c1, .int .i64 c2] 36)).heap.size = Vy.heap.size + 1 := by simp
    replace HB := Lib.hid (HB.out.trans (hbz.mono HB.out.size));have kz := Lib.hid (Lok.new Vy 36 #[.int .i64 c1, .int .i64 c2]);clear hbz;generalize Vy.alloc (.cells #[.int .i64 c1, .int .i64 c2] 36) = Vz at *;rw [zy] at kz;clear zx zy zz;have x0 := kx.out.cell (i := 0) rfl;have x1 := kx.out.cell (i := 1) rfl
    go_wp2_with fail
    clear x0 x1
    (((with_reducible refine (S1.out _).mono ?_); rintro e w1 ⟨rfl, hb1⟩); replace HB := Lib.hid (HB.out.trans (hb1.mono HB.out.size)); replace kx := Lib.hid (kx.out.keep hb1); replace ky := Lib.hid (ky.out.keep hb1); replace kz := Lib.hid (kz.out.keep hb1); clear hb1)
    have y0 := ky.out.cell (i := 0) rfl;have y1 := ky.out.cell (i := 1) rfl
    go_wp2_with fail
    clear y0 y1
    (((with_reducible refine (S2.out _).mono ?_); rintro e w2 ⟨rfl, hb2⟩); replace HB := Lib.hid (HB.out.trans (hb2.mono HB.out.size)); replace kx := Lib.hid (kx.out.keep hb2); replace ky := Lib.hid (ky.out.keep hb2); replace kz := Lib.hid (kz.out.keep hb2); clear hb2)
    have z0 := kz.out.cell (i := 0) rfl;have z1 := kz.out.cell (i := 1) rfl
    go_wp2_with fail
    clear z0 z1
    (((with_reducible refine (S3.out _).mono ?_); rintro e w3 ⟨rfl, hb3⟩); replace HB := Lib.hid (HB.out.trans (hb3.mono HB.out.size)); replace kx := Lib.hid (kx.out.keep hb3); replace ky := Lib.hid (ky.out.keep hb3); replace kz := Lib.hid (kz.out.keep hb3); clear hb3)
    go_wp2
    go_ret2
    exact ⟨rfl, HB.out⟩
   | true =>
    rw [h3] at S3
    show Calls _ _ _ _ fun e' w' => e' = .returned (.tuple #[.int .i64 (ar a1 a2 b1 b2 c1 c2), .int .i64 0]) ∧ _
    have U1 := Lib.hid (fun W => rsub2_sm h1 h2 W);have U2 := Lib.hid (fun W => rsub2_sm h1 h3 W);have X := Lib.hid (fun W => rcross2_sm h1 h2 h3 W);generalize ar a1 a2 b1 b2 c1 c2 = n at *;clear h1 h2 h3
    go_enter Tryz.func85, Tryz.ntmps85
    go_upto_region 1 with fail
    have hbx := below_new1 w (.cells #[.int .i64 a1, .int .i64 a2] 36)
    have zx : (w.alloc (.cells #[.int .i64 a1, .int .i64 a2] 36)).heap.size = w.heap.size + 1 := by simp
    have HB := Lib.hid hbx;have kx := Lib.hid (Lok.new w 36 #[.int .i64 a1, .int .i64 a2]);clear hbx;generalize w.alloc (.cells #[.int .i64 a1, .int .i64 a2] 36) = Vx at *;have hby := below_new1 Vx (.cells #[.int .i64 b1, .int .i64 b2] 36);replace kx := Lib.hid (kx.out.keep hby)
    have zy : (Vx.alloc (.cells #[.int .i64 b1, .int .i64 b2] 36)).heap.size = Vx.heap.size + 1 := by simp
    replace HB := Lib.hid (HB.out.trans (hby.mono HB.out.size));have ky := Lib.hid (Lok.new Vx 36 #[.int .i64 b1, .int .i64 b2]);clear hby;generalize Vx.alloc (.cells #[.int .i64 b1, .int .i64 b2] 36) = Vy at *;rw [zx] at ky zy;have hbz := below_new1 Vy (.cells #[.int .i64 c1, .int .i64 c2] 36);replace kx := Lib.hid (kx.out.keep hbz);replace ky := Lib.hid (ky.out.keep hbz)
    have zz : (Vy.alloc (.cells #[.int .i64 c1, .int .i64 c2] 36)).heap.size = Vy.heap.size + 1 := by simp
    replace HB := Lib.hid (HB.out.trans (hbz.mono HB.out.size));have kz := Lib.hid (Lok.new Vy 36 #[.int .i64 c1, .int .i64 c2]);clear hbz;generalize Vy.alloc (.cells #[.int .i64 c1, .int .i64 c2] 36) = Vz at *;rw [zy] at kz;clear zx zy zz;have x0 := kx.out.cell (i := 0) rfl;have x1 := kx.out.cell (i := 1) rfl
    go_wp2_with fail
    clear x0 x1
    (((with_reducible refine (S1.out _).mono ?_); rintro e w1 ⟨rfl, hb1⟩); replace HB := Lib.hid (HB.out.trans (hb1.mono HB.out.size)); replace kx := Lib.hid (kx.out.keep hb1); replace ky := Lib.hid (ky.out.keep hb1); replace kz := Lib.hid (kz.out.keep hb1); clear hb1)
    have y0 := ky.out.cell (i := 0) rfl;have y1 := ky.out.cell (i := 1) rfl
    go_wp2_with fail
    clear y0 y1
    (((with_reducible refine (S2.out _).mono ?_); rintro e w2 ⟨rfl, hb2⟩); replace HB := Lib.hid (HB.out.trans (hb2.mono HB.out.size)); replace kx := Lib.hid (kx.out.keep hb2); replace ky := Lib.hid (ky.out.keep hb2); replace kz := Lib.hid (kz.out.keep hb2); clear hb2)
    have z0 := kz.out.cell (i := 0) rfl;have z1 := kz.out.cell (i := 1) rfl
    go_wp2_with fail
    clear z0 z1
    (((with_reducible refine (S3.out _).mono ?_); rintro e w3 ⟨rfl, hb3⟩); replace HB := Lib.hid (HB.out.trans (hb3.mono HB.out.size)); replace kx := Lib.hid (kx.out.keep hb3); replace ky := Lib.hid (ky.out.keep hb3); replace kz := Lib.hid (kz.out.keep hb3); clear hb3)
    clear S1 S2 S3
    go_upto_region 3 with fail
    have qx0 : ∀ D : Of (PastV w3), _ := fun D => (kx.out.keep (show Below w3.heap.size w3 D.world from D.holds)).cell (i := 0) rfl;have qx1 : ∀ D : Of (PastV w3), _ := fun D => (kx.out.keep (show Below w3.heap.size w3 D.world from D.holds)).cell (i := 1) rfl;have qy0 : ∀ D : Of (PastV w3), _ := fun D => (ky.out.keep (show Below w3.heap.size w3 D.world from D.holds)).cell (i := 0) rfl;have qy1 : ∀ D : Of (PastV w3), _ := fun D => (ky.out.keep (show Below w3.heap.size w3 D.world from D.holds)).cell (i := 1) rfl;have qz0 : ∀ D : Of (PastV w3), _ := fun D => (kz.out.keep (show Below w3.heap.size w3 D.world from D.holds)).cell (i := 0) rfl;have qz1 : ∀ D : Of (PastV w3), _ := fun D => (kz.out.keep (show Below w3.heap.size w3 D.world from D.holds)).cell (i := 1) rfl;have ST := Lib.hid (pastV_stays w3);have ne : Nonempty (Of (PastV w3)) := ⟨⟨w3, Below.refl _ _⟩⟩
    refine wp_region_class (S := PastV w3) (by kernel_rfl) (by kernel_rfl) (Below.refl _ _).drew ?_
    repeat (go_big_quiet_step (first | (go_at_call 104; first | (with_reducible exact class_call ST.out _ (U1.out _)) | (with_reducible exact class_call ST.out _ (U2.out _))) | (go_at_call 103; first | (with_reducible exact class_call ST.out _ (X.out _)))))
    refine wpQuiet_nil ?_
    rintro _ ⟨D, rfl⟩
    have hD : Below w3.heap.size w3 D.world := D.holds;replace HB := Lib.hid (HB.out.trans (hD.mono HB.out.size));replace kx := Lib.hid (kx.out.keep hD);replace ky := Lib.hid (ky.out.keep hD);replace kz := Lib.hid (kz.out.keep hD);generalize D.world = vd at *;clear qx0 qx1 qy0 qy1 qz0 qz1 ne ST hD
    go_wp2
    go_ret2
    exact ⟨rfl, HB.out⟩
set_option maxRecDepth 100000 in
set_option maxHeartbeats 4000000 in
theorem rsideOf_any (a1 a2 b1 b2 c1 c2 : Int) (t : Bool) (ht : (s2 a1 a2 && s2 b1 b2 && s2 c1 c2) = t) (w : World) :
  Calls Tryz.prog 121 #[.agg #[.int .i64 a1, .int .i64 a2], .agg #[.int .i64 b1, .int .i64 b2], .agg #[.int .i64 c1, .int .i64 c2]] w fun e' w' => e' = .returned (.tuple #[.int .i64 (ordI (vF t (ar a1 a2 b1 b2 c1 c2)) 0), .int .i64 (rE t)]) ∧ Below w.heap.size w w' := by
 have HB := Lib.hid (Below.refl w.heap.size w);have P := Lib.hid (fun W => rarea_any a1 a2 b1 b2 c1 c2 t ht W);generalize vF t (ar a1 a2 b1 b2 c1 c2) = n at *;generalize rE t = e0 at *;have Q := Lib.hid (fun W => rside_any n W);generalize ordI n 0 = s at *;clear ht
 go_enter Tryz.func121, Tryz.ntmps121
 go_upto_region 1 with fail
 have hbx := below_new1 w (.cells #[.int .i64 a1, .int .i64 a2] 36)
 have zx : (w.alloc (.cells #[.int .i64 a1, .int .i64 a2] 36)).heap.size = w.heap.size + 1 := by simp
 have HB := Lib.hid hbx;have kx := Lib.hid (Lok.new w 36 #[.int .i64 a1, .int .i64 a2]);clear hbx;generalize w.alloc (.cells #[.int .i64 a1, .int .i64 a2] 36) = Vx at *;have hby := below_new1 Vx (.cells #[.int .i64 b1, .int .i64 b2] 36);replace kx := Lib.hid (kx.out.keep hby)
 have zy : (Vx.alloc (.cells #[.int .i64 b1, .int .i64 b2] 36)).heap.size = Vx.heap.size + 1 := by simp
 replace HB := Lib.hid (HB.out.trans (hby.mono HB.out.size));have ky := Lib.hid (Lok.new Vx 36 #[.int .i64 b1, .int .i64 b2]);clear hby;generalize Vx.alloc (.cells #[.int .i64 b1, .int .i64 b2] 36) = Vy at *;rw [zx] at ky zy;have hbz := below_new1 Vy (.cells #[.int .i64 c1, .int .i64 c2] 36);replace kx := Lib.hid (kx.out.keep hbz);replace ky := Lib.hid (ky.out.keep hbz)
 have zz : (Vy.alloc (.cells #[.int .i64 c1, .int .i64 c2] 36)).heap.size = Vy.heap.size + 1 := by simp
 replace HB := Lib.hid (HB.out.trans (hbz.mono HB.out.size));have kz := Lib.hid (Lok.new Vy 36 #[.int .i64 c1, .int .i64 c2]);clear hbz;generalize Vy.alloc (.cells #[.int .i64 c1, .int .i64 c2] 36) = Vz at *;rw [zy] at kz;clear zx zy zz;have x0 := kx.out.cell (i := 0) rfl;have x1 := kx.out.cell (i := 1) rfl;have y0 := ky.out.cell (i := 0) rfl;have y1 := ky.out.cell (i := 1) rfl;have z0 := kz.out.cell (i := 0) rfl;have z1 := kz.out.cell (i := 1) rfl
 go_wp2_with fail
 clear x0 x1 y0 y1 z0 z1
 (((with_reducible refine (P.out _).mono ?_); rintro e w1 ⟨rfl, hb1⟩); replace HB := Lib.hid (HB.out.trans (hb1.mono HB.out.size)); clear hb1)
 go_wp2_with fail
 (((with_reducible refine (Q.out _).mono ?_); rintro e w2 ⟨rfl, hb2⟩); replace HB := Lib.hid (HB.out.trans (hb2.mono HB.out.size)); clear hb2)
 go_wp2
 go_ret2
 exact ⟨rfl, HB.out⟩
end Go.Proofs.YtcnbbanpnoigdaaGreat
namespace Go.Proofs.YtcnbbanpnoigdaaGreat
open Go.RowKit

set_option maxRecDepth 100000 in
set_option maxHeartbeats 1000000 in
theorem under_any (n : Int) (w : World) (h : I64 n) :
  Calls Tryz.prog 76 #[.int .i64 n] w fun e w' => e = .returned (.int .i64 (bl n)) ∧ Below w.heap.size w w' := by
 unfold I64 at h;unfold bl
 by_cases k : 0 < n
 ·have d : decide (0 < n) = true := decide_eq_true k
  have e : IntKind.i64.wrap (-n) = -n := IntWalk.i64_in _ (by omega);rw [show (n.natAbs : Int) = n from by omega];clear h
  go_enter Tryz.func76, Tryz.ntmps76
  go_wp2
  go_ret
  exact ⟨rfl, by (repeat (first | exact Below.refl _ _ | assumption | refine Below.drew ?_ | refine below_drewN ?_ _ | refine Below.setCell ?_ (by first | omega | (simp; done) | (simp; omega)) _ | refine Below.alloc ?_ (by first | omega | (simp; done) | (simp; omega)) _))⟩
 ·have d : decide (0 < n) = false := decide_eq_false k
  rw [show -(n.natAbs : Int) = n from by omega];clear h
  go_enter Tryz.func76, Tryz.ntmps76
  go_wp2
  go_ret
  exact ⟨rfl, by (repeat (first | exact Below.refl _ _ | assumption | refine Below.drew ?_ | refine below_drewN ?_ _ | refine Below.setCell ?_ (by first | omega | (simp; done) | (simp; omega)) _ | refine Below.alloc ?_ (by first | omega | (simp; done) | (simp; omega)) _))⟩

theorem axF_ref (a b c : Int) : ((axF a b c 3 : Nat) : Int) = if bl a ≤ bl b ∧ bl a ≤ bl c then 0 else if bl b ≤ bl c then 1 else 2 := by
 have e1 : axF a b c 1 = 0 := by
  by_cases s : bl (pt a b c 0) < bl (pt a b c (axF a b c 0))
  ·rw [axF_take s]
  ·rw [axF_keep s]; rfl
 have p0 : pt a b c 0 = a := rfl;have p1 : pt a b c 1 = b := rfl;have p2 : pt a b c 2 = c := rfl
 by_cases s : bl b < bl a
 ·have e2 : axF a b c 2 = 1 := axF_take (k := 1) (by rw [e1, p1, p0]; exact s)
  by_cases r : bl c < bl b
  ·rw [axF_take (k := 2) (by rw [e2, p1, p2]; exact r), if_neg (by omega), if_neg (by omega)]; rfl
  ·rw [axF_keep (k := 2) (by rw [e2, p1, p2]; exact r), e2, if_neg (by omega), if_pos (by omega)]; rfl
 ·have e2 : axF a b c 2 = 0 := by rw [axF_keep (k := 1) (by rw [e1, p1, p0]; exact s), e1]
  by_cases r : bl c < bl a
  ·rw [axF_take (k := 2) (by rw [e2, p0, p2]; exact r), if_neg (by omega), if_neg (by omega)]; rfl
  ·rw [axF_keep (k := 2) (by rw [e2, p0, p2]; exact r), e2, if_pos (by omega)]; rfl

set_option maxRecDepth 100000 in
set_option maxHeartbeats 1000000 in
theorem raxis_any (a b c : Int) (w : World) (ha : I64 a) (hb : I64 b) (hc : I64 c) :
  Calls Tryz.prog 52 #[.agg #[.int .i64 a, .int .i64 b, .int .i64 c]] w fun e w' => e = .returned (.int .i64 (axF a b c 3)) ∧ Below w.heap.size w w' := by
 have HB := Lib.hid (Below.refl w.heap.size w);have U1 := Lib.hid (fun W => under_any a W ha);have U2 := Lib.hid (fun W => under_any b W hb);have U3 := Lib.hid (fun W => under_any c W hc);rw [axF_ref];clear ha hb hc;generalize bl a = x at *;generalize bl b = y at *;generalize bl c = z at *
 have W4 : (x ≤ y ∧ x ≤ z) ∨ (x ≤ y ∧ ¬ x ≤ z ∧ ¬ y ≤ z) ∨ (¬ x ≤ y ∧ y ≤ z) ∨ (¬ x ≤ y ∧ ¬ y ≤ z) := by omega
 rcases W4 with ⟨h1, h2⟩ | ⟨h1, h2, h3⟩ | ⟨h1, h2⟩ | ⟨h1, h2⟩
 ·rw [if_pos ⟨h1, h2⟩]
  have d1 : decide (x ≤ y) = true := decide_eq_true h1;have d2 : decide (x ≤ z) = true := decide_eq_true h2
  go_enter Tryz.func52, Tryz.ntmps52
  go_upto_region 1 with fail
  have hbx := below_new1 w (.cells #[.int .i64 a, .int .i64 b, .int .i64 c] 57)
  have zx : (w.alloc (.cells #[.int .i64 a, .int .i64 b, .int .i64 c] 57)).heap.size = w.heap.size + 1 := by simp
  have HB := Lib.hid hbx;have kx := Lib.hid (Lok.new w 57 #[.int .i64 a, .int .i64 b, .int .i64 c]);clear hbx;generalize w.alloc (.cells #[.int .i64 a, .int .i64 b, .int .i64 c] 57) = Vx at *;clear zx;have x0 := kx.out.cell (i := 0) rfl
  go_wp2_with fail
  clear x0
  (((with_reducible refine (U1.out _).mono ?_); rintro e w1 ⟨rfl, hb1⟩); replace HB := Lib.hid (HB.out.trans (hb1.mono HB.out.size)); replace kx := Lib.hid (kx.out.keep hb1); clear hb1)
  have x1 := kx.out.cell (i := 1) rfl
  go_wp2_with fail
  clear x1
  (((with_reducible refine (U2.out _).mono ?_); rintro e w2 ⟨rfl, hb2⟩); replace HB := Lib.hid (HB.out.trans (hb2.mono HB.out.size)); replace kx := Lib.hid (kx.out.keep hb2); clear hb2)
  have x2 := kx.out.cell (i := 2) rfl
  go_wp2_with fail
  clear x2
  (((with_reducible refine (U3.out _).mono ?_); rintro e w3 ⟨rfl, hb3⟩); replace HB := Lib.hid (HB.out.trans (hb3.mono HB.out.size)); clear hb3)
  go_wp2
  go_ret
  exact ⟨rfl, HB.out⟩
 ·rw [if_neg (by omega), if_neg (by omega)]
  have d1 : decide (x ≤ y) = true := decide_eq_true h1;have d2 : decide (x ≤ z) = false := decide_eq_false h2;have d3 : decide (y ≤ z) = false := decide_eq_false h3
  go_enter Tryz.func52, Tryz.ntmps52
  go_upto_region 1 with fail
  have hbx := below_new1 w (.cells #[.int .i64 a, .int .i64 b, .int .i64 c] 57)
  have zx : (w.alloc (.cells #[.int .i64 a, .int .i64 b, .int .i64 c] 57)).heap.size = w.heap.size + 1 := by simp
  have HB := Lib.hid hbx;have kx := Lib.hid (Lok.new w 57 #[.int .i64 a, .int .i64 b, .int .i64 c]);clear hbx;generalize w.alloc (.cells #[.int .i64 a, .int .i64 b, .int .i64 c] 57) = Vx at *;clear zx;have x0 := kx.out.cell (i := 0) rfl
  go_wp2_with fail
  clear x0
  (((with_reducible refine (U1.out _).mono ?_); rintro e w1 ⟨rfl, hb1⟩); replace HB := Lib.hid (HB.out.trans (hb1.mono HB.out.size)); replace kx := Lib.hid (kx.out.keep hb1); clear hb1)
  have x1 := kx.out.cell (i := 1) rfl
  go_wp2_with fail
  clear x1
  (((with_reducible refine (U2.out _).mono ?_); rintro e w2 ⟨rfl, hb2⟩); replace HB := Lib.hid (HB.out.trans (hb2.mono HB.out.size)); replace kx := Lib.hid (kx.out.keep hb2); clear hb2)
  have x2 := kx.out.cell (i := 2) rfl
  go_wp2_with fail
  clear x2
  (((with_reducible refine (U3.out _).mono ?_); rintro e w3 ⟨rfl, hb3⟩); replace HB := Lib.hid (HB.out.trans (hb3.mono HB.out.size)); clear hb3)
  go_wp2
  go_ret
  exact ⟨rfl, HB.out⟩
 ·rw [if_neg (by omega), if_pos (by omega)]
  have d1 : decide (x ≤ y) = false := decide_eq_false h1;have d3 : decide (y ≤ z) = true := decide_eq_true h2
  go_enter Tryz.func52, Tryz.ntmps52
  go_upto_region 1 with fail
  have hbx := below_new1 w (.cells #[.int .i64 a, .int .i64 b, .int .i64 c] 57)
  have zx : (w.alloc (.cells #[.int .i64 a, .int .i64 b, .int .i64 c] 57)).heap.size = w.heap.size + 1 := by simp
  have HB := Lib.hid hbx;have kx := Lib.hid (Lok.new w 57 #[.int .i64 a, .int .i64 b, .int .i64 c]);clear hbx;generalize w.alloc (.cells #[.int .i64 a, .int .i64 b, .int .i64 c] 57) = Vx at *;clear zx;have x0 := kx.out.cell (i := 0) rfl
  go_wp2_with fail
  clear x0
  (((with_reducible refine (U1.out _).mono ?_); rintro e w1 ⟨rfl, hb1⟩); replace HB := Lib.hid (HB.out.trans (hb1.mono HB.out.size)); replace kx := Lib.hid (kx.out.keep hb1); clear hb1)
  have x1 := kx.out.cell (i := 1) rfl
  go_wp2_with fail
  clear x1
  (((with_reducible refine (U2.out _).mono ?_); rintro e w2 ⟨rfl, hb2⟩); replace HB := Lib.hid (HB.out.trans (hb2.mono HB.out.size)); replace kx := Lib.hid (kx.out.keep hb2); clear hb2)
  have x2 := kx.out.cell (i := 2) rfl
  go_wp2_with fail
  clear x2
  (((with_reducible refine (U3.out _).mono ?_); rintro e w3 ⟨rfl, hb3⟩); replace HB := Lib.hid (HB.out.trans (hb3.mono HB.out.size)); clear hb3)
  go_wp2
  go_ret
  exact ⟨rfl, HB.out⟩
 ·rw [if_neg (by omega), if_neg (by omega)]
  have d1 : decide (x ≤ y) = false := decide_eq_false h1;have d3 : decide (y ≤ z) = false := decide_eq_false h2
  go_enter Tryz.func52, Tryz.ntmps52
  go_upto_region 1 with fail
  have hbx := below_new1 w (.cells #[.int .i64 a, .int .i64 b, .int .i64 c] 57)
  have zx : (w.alloc (.cells #[.int .i64 a, .int .i64 b, .int .i64 c] 57)).heap.size = w.heap.size + 1 := by simp
  have HB := Lib.hid hbx;have kx := Lib.hid (Lok.new w 57 #[.int .i64 a, .int .i64 b, .int .i64 c]);clear hbx;generalize w.alloc (.cells #[.int .i64 a, .int .i64 b, .int .i64 c] 57) = Vx at *;clear zx;have x0 := kx.out.cell (i := 0) rfl
  go_wp2_with fail
  clear x0
  (((with_reducible refine (U1.out _).mono ?_); rintro e w1 ⟨rfl, hb1⟩); replace HB := Lib.hid (HB.out.trans (hb1.mono HB.out.size)); replace kx := Lib.hid (kx.out.keep hb1); clear hb1)
  have x1 := kx.out.cell (i := 1) rfl
  go_wp2_with fail
  clear x1
  (((with_reducible refine (U2.out _).mono ?_); rintro e w2 ⟨rfl, hb2⟩); replace HB := Lib.hid (HB.out.trans (hb2.mono HB.out.size)); replace kx := Lib.hid (kx.out.keep hb2); clear hb2)
  have x2 := kx.out.cell (i := 2) rfl
  go_wp2_with fail
  clear x2
  (((with_reducible refine (U3.out _).mono ?_); rintro e w3 ⟨rfl, hb3⟩); replace HB := Lib.hid (HB.out.trans (hb3.mono HB.out.size)); clear hb3)
  go_wp2
  go_ret
  exact ⟨rfl, HB.out⟩
end Go.Proofs.YtcnbbanpnoigdaaGreat
namespace Go.Proofs.YtcnbbanpnoigdaaGreat
open Go.RowKit

set_option maxRecDepth 100000 in
set_option maxHeartbeats 4000000 in
theorem rnormal_any (a1 a2 a3 b1 b2 b3 c1 c2 c3 : Int) (t : Bool) (ht : (s3 a1 a2 a3 && s3 b1 b2 b3 && s3 c1 c2 c3) = t) (w : World) :
  Calls Tryz.prog 51 #[.agg #[.int .i64 a1, .int .i64 a2, .int .i64 a3], .agg #[.int .i64 b1, .int .i64 b2, .int .i64 b3], .agg #[.int .i64 c1, .int .i64 c2, .int .i64 c3]] w fun e' w' => e' = .returned (.tuple #[.agg #[.int .i64 (vF t (ar a2 a3 b2 b3 c2 c3)), .int .i64 (vF t (ar a3 a1 b3 b1 c3 c1)), .int .i64 (vF t (ar a1 a2 b1 b2 c1 c2))], .int .i64 (rE t)]) ∧ Below w.heap.size w w' := by
 subst ht;have HB := Lib.hid (Below.refl w.heap.size w);have S1 := Lib.hid (fun W => rsmall3_any a1 a2 a3 W);have S2 := Lib.hid (fun W => rsmall3_any b1 b2 b3 W);have S3 := Lib.hid (fun W => rsmall3_any c1 c2 c3 W)
 cases h1 : s3 a1 a2 a3 with
 | false =>
  rw [h1] at S1
  show Calls _ _ _ _ fun e' w' => e' = .returned (.tuple #[.agg #[.int .i64 0, .int .i64 0, .int .i64 0], .int .i64 5]) ∧ _
  clear h1
  go_enter Tryz.func51, Tryz.ntmps51
  go_upto_region 1 with fail
  have hbx := below_new1 w (.cells #[.int .i64 a1, .int .i64 a2, .int .i64 a3] 57)
  have zx : (w.alloc (.cells #[.int .i64 a1, .int .i64 a2, .int .i64 a3] 57)).heap.size = w.heap.size + 1 := by simp
  have HB := Lib.hid hbx;have kx := Lib.hid (Lok.new w 57 #[.int .i64 a1, .int .i64 a2, .int .i64 a3]);clear hbx;generalize w.alloc (.cells #[.int .i64 a1, .int .i64 a2, .int .i64 a3] 57) = Vx at *;have hby := below_new1 Vx (.cells #[.int .i64 b1, .int .i64 b2, .int .i64 b3] 57);replace kx := Lib.hid (kx.out.keep hby)
  have zy : (Vx.alloc (.cells #[.int .i64 b1, .int .i64 b2, .int .i64 b3] 57)).heap.size = Vx.heap.size + 1 := by simp
  replace HB := Lib.hid (HB.out.trans (hby.mono HB.out.size));have ky := Lib.hid (Lok.new Vx 57 #[.int .i64 b1, .int .i64 b2, .int .i64 b3]);clear hby;generalize Vx.alloc (.cells #[.int .i64 b1, .int .i64 b2, .int .i64 b3] 57) = Vy at *;rw [zx] at ky zy;have hbz := below_new1 Vy (.cells #[.int .i64 c1, .int .i64 c2, .int .i64 c3] 57);replace kx := Lib.hid (kx.out.keep hbz);replace ky := Lib.hid (ky.out.keep hbz)
  have zz : (Vy.alloc (.cells #[.int .i64 c1, .int .i64 c2, .int .i64 c3] 57)).heap.size = Vy.heap.size + 1 := by simp
  replace HB := Lib.hid (HB.out.trans (hbz.mono HB.out.size));have kz := Lib.hid (Lok.new Vy 57 #[.int .i64 c1, .int .i64 c2, .int .i64 c3]);clear hbz;generalize Vy.alloc (.cells #[.int .i64 c1, .int .i64 c2, .int .i64 c3] 57) = Vz at *;rw [zy] at kz zz;have hbu := below_new1 Vz (.cells #[.int .i64 0, .int .i64 0, .int .i64 0] 57);replace kx := Lib.hid (kx.out.keep hbu);replace ky := Lib.hid (ky.out.keep hbu);replace kz := Lib.hid (kz.out.keep hbu)
  have zu : (Vz.alloc (.cells #[.int .i64 0, .int .i64 0, .int .i64 0] 57)).heap.size = Vz.heap.size + 1 := by simp
  replace HB := Lib.hid (HB.out.trans (hbu.mono HB.out.size));have ku := Lib.hid (Lok.new Vz 57 #[.int .i64 0, .int .i64 0, .int .i64 0]);clear hbu;generalize Vz.alloc (.cells #[.int .i64 0, .int .i64 0, .int .i64 0] 57) = Vu at *;rw [zz] at ku;clear zx zy zz zu;have x0 := kx.out.cell (i := 0) rfl;have x1 := kx.out.cell (i := 1) rfl;have x2 := kx.out.cell (i := 2) rfl
  go_wp2_with fail
  clear x0 x1 x2
  (((with_reducible refine (S1.out _).mono ?_); rintro e w1 ⟨rfl, hb1⟩); replace HB := Lib.hid (HB.out.trans (hb1.mono HB.out.size)); replace kx := Lib.hid (kx.out.keep hb1); replace ky := Lib.hid (ky.out.keep hb1); replace kz := Lib.hid (kz.out.keep hb1); replace ku := Lib.hid (ku.out.keep hb1); clear hb1)
  have u0 := ku.out.cell (i := 0) rfl;have u1 := ku.out.cell (i := 1) rfl;have u2 := ku.out.cell (i := 2) rfl;have fu0 := ku.out.frozen 0;have fu1 := ku.out.frozen 1;have fu2 := ku.out.frozen 2
  go_wp2_with fail
  exact bodyPost_ret (v := .tuple #[.agg #[.int .i64 0, .int .i64 0, .int .i64 0], .int .i64 5]) (by simp [results, Tryz.results51, go_sem, u0, u1, u2]) rfl ⟨rfl, ((HB.out.setCell (by simp <;> omega) _).setCell (by simp <;> omega) _).setCell (by simp <;> omega) _⟩
 | true =>
  rw [h1] at S1
  cases h2 : s3 b1 b2 b3 with
  | false =>
   rw [h2] at S2
   show Calls _ _ _ _ fun e' w' => e' = .returned (.tuple #[.agg #[.int .i64 0, .int .i64 0, .int .i64 0], .int .i64 5]) ∧ _
   clear h1 h2
   go_enter Tryz.func51, Tryz.ntmps51
   go_upto_region 1 with fail
   have hbx := below_new1 w (.cells #[.int .i64 a1, .int .i64 a2, .int .i64 a3] 57)
   have zx : (w.alloc (.cells #[.int .i64 a1, .int .i64 a2, .int .i64 a3] 57)).heap.size = w.heap.size + 1 := by simp
   have HB := Lib.hid hbx;have kx := Lib.hid (Lok.new w 57 #[.int .i64 a1, .int .i64 a2, .int .i64 a3]);clear hbx;generalize w.alloc (.cells #[.int .i64 a1, .int .i64 a2, .int .i64 a3] 57) = Vx at *;have hby := below_new1 Vx (.cells #[.int .i64 b1, .int .i64 b2, .int .i64 b3] 57);replace kx := Lib.hid (kx.out.keep hby)
   have zy : (Vx.alloc (.cells #[.int .i64 b1, .int .i64 b2, .int .i64 b3] 57)).heap.size = Vx.heap.size + 1 := by simp
   replace HB := Lib.hid (HB.out.trans (hby.mono HB.out.size));have ky := Lib.hid (Lok.new Vx 57 #[.int .i64 b1, .int .i64 b2, .int .i64 b3]);clear hby;generalize Vx.alloc (.cells #[.int .i64 b1, .int .i64 b2, .int .i64 b3] 57) = Vy at *;rw [zx] at ky zy;have hbz := below_new1 Vy (.cells #[.int .i64 c1, .int .i64 c2, .int .i64 c3] 57);replace kx := Lib.hid (kx.out.keep hbz);replace ky := Lib.hid (ky.out.keep hbz)
   have zz : (Vy.alloc (.cells #[.int .i64 c1, .int .i64 c2, .int .i64 c3] 57)).heap.size = Vy.heap.size + 1 := by simp
   replace HB := Lib.hid (HB.out.trans (hbz.mono HB.out.size));have kz := Lib.hid (Lok.new Vy 57 #[.int .i64 c1, .int .i64 c2, .int .i64 c3]);clear hbz;generalize Vy.alloc (.cells #[.int .i64 c1, .int .i64 c2, .int .i64 c3] 57) = Vz at *;rw [zy] at kz zz;have hbu := below_new1 Vz (.cells #[.int .i64 0, .int .i64 0, .int .i64 0] 57);replace kx := Lib.hid (kx.out.keep hbu);replace ky := Lib.hid (ky.out.keep hbu);replace kz := Lib.hid (kz.out.keep hbu)
   have zu : (Vz.alloc (.cells #[.int .i64 0, .int .i64 0, .int .i64 0] 57)).heap.size = Vz.heap.size + 1 := by simp
   replace HB := Lib.hid (HB.out.trans (hbu.mono HB.out.size));have ku := Lib.hid (Lok.new Vz 57 #[.int .i64 0, .int .i64 0, .int .i64 0]);clear hbu;generalize Vz.alloc (.cells #[.int .i64 0, .int .i64 0, .int .i64 0] 57) = Vu at *;rw [zz] at ku;clear zx zy zz zu;have x0 := kx.out.cell (i := 0) rfl;have x1 := kx.out.cell (i := 1) rfl;have x2 := kx.out.cell (i := 2) rfl
   go_wp2_with fail
   clear x0 x1 x2
   (((with_reducible refine (S1.out _).mono ?_); rintro e w1 ⟨rfl, hb1⟩); replace HB := Lib.hid (HB.out.trans (hb1.mono HB.out.size)); replace kx := Lib.hid (kx.out.keep hb1); replace ky := Lib.hid (ky.out.keep hb1); replace kz := Lib.hid (kz.out.keep hb1); replace ku := Lib.hid (ku.out.keep hb1); clear hb1)
   have y0 := ky.out.cell (i := 0) rfl;have y1 := ky.out.cell (i := 1) rfl;have y2 := ky.out.cell (i := 2) rfl
   go_wp2_with fail
   clear y0 y1 y2
   (((with_reducible refine (S2.out _).mono ?_); rintro e w2 ⟨rfl, hb2⟩); replace HB := Lib.hid (HB.out.trans (hb2.mono HB.out.size)); replace kx := Lib.hid (kx.out.keep hb2); replace ky := Lib.hid (ky.out.keep hb2); replace kz := Lib.hid (kz.out.keep hb2); replace ku := Lib.hid (ku.out.keep hb2); clear hb2)
   have u0 := ku.out.cell (i := 0) rfl;have u1 := ku.out.cell (i := 1) rfl;have u2 := ku.out.cell (i := 2) rfl;have fu0 := ku.out.frozen 0;have fu1 := ku.out.frozen 1;have fu2 := ku.out.frozen 2
   go_wp2_with fail
   exact bodyPost_ret (v := .tuple #[.agg #[.int .i64 0, .int .i64 0, .int .i64 0], .int .i64 5]) (by simp [results, Tryz.results51, go_sem, u0, u1, u2]) rfl ⟨rfl, ((HB.out.setCell (by simp <;> omega) _).setCell (by simp <;> omega) _).setCell (by simp <;> omega) _⟩
  | true =>
   rw [h2] at S2
   cases h3 : s3 c1 c2 c3 with
   | false =>
    rw [h3] at S3
    show Calls _ _ _ _ fun e' w' => e' = .returned (.tuple #[.agg #[.int .i64 0, .int .i64 0, .int .i64 0], .int .i64 5]) ∧ _
    clear h1 h2 h3
    go_enter Tryz.func51, Tryz.ntmps51
    go_upto_region 1 with fail
    have hbx := below_new1 w (.cells #[.int .i64 a1, .int .i64 a2, .int .i64 a3] 57)
    have zx : (w.alloc (.cells #[.int .i64 a1, .int .i64 a2, .int .i64 a3] 57)).heap.size = w.heap.size + 1 := by simp
    have HB := Lib.hid hbx;have kx := Lib.hid (Lok.new w 57 #[.int .i64 a1, .int .i64 a2, .int .i64 a3]);clear hbx;generalize w.alloc (.cells #[.int .i64 a1, .int .i64 a2, .int .i64 a3] 57) = Vx at *;have hby := below_new1 Vx (.cells #[.int .i64 b1, .int .i64 b2, .int .i64 b3] 57);replace kx := Lib.hid (kx.out.keep hby)
    have zy : (Vx.alloc (.cells #[.int .i64 b1, .int .i64 b2, .int .i64 b3] 57)).heap.size = Vx.heap.size + 1 := by simp
    replace HB := Lib.hid (HB.out.trans (hby.mono HB.out.size));have ky := Lib.hid (Lok.new Vx 57 #[.int .i64 b1, .int .i64 b2, .int .i64 b3]);clear hby;generalize Vx.alloc (.cells #[.int .i64 b1, .int .i64 b2, .int .i64 b3] 57) = Vy at *;rw [zx] at ky zy;have hbz := below_new1 Vy (.cells #[.int .i64 c1, .int .i64 c2, .int .i64 c3] 57);replace kx := Lib.hid (kx.out.keep hbz);replace ky := Lib.hid (ky.out.keep hbz)
    have zz : (Vy.alloc (.cells #[.int .i64 c1, .int .i64 c2, .int .i64 c3] 57)).heap.size = Vy.heap.size + 1 := by simp
    replace HB := Lib.hid (HB.out.trans (hbz.mono HB.out.size));have kz := Lib.hid (Lok.new Vy 57 #[.int .i64 c1, .int .i64 c2, .int .i64 c3]);clear hbz;generalize Vy.alloc (.cells #[.int .i64 c1, .int .i64 c2, .int .i64 c3] 57) = Vz at *;rw [zy] at kz zz;have hbu := below_new1 Vz (.cells #[.int .i64 0, .int .i64 0, .int .i64 0] 57);replace kx := Lib.hid (kx.out.keep hbu);replace ky := Lib.hid (ky.out.keep hbu);replace kz := Lib.hid (kz.out.keep hbu)
    have zu : (Vz.alloc (.cells #[.int .i64 0, .int .i64 0, .int .i64 0] 57)).heap.size = Vz.heap.size + 1 := by simp
    replace HB := Lib.hid (HB.out.trans (hbu.mono HB.out.size));have ku := Lib.hid (Lok.new Vz 57 #[.int .i64 0, .int .i64 0, .int .i64 0]);clear hbu;generalize Vz.alloc (.cells #[.int .i64 0, .int .i64 0, .int .i64 0] 57) = Vu at *;rw [zz] at ku;clear zx zy zz zu;have x0 := kx.out.cell (i := 0) rfl;have x1 := kx.out.cell (i := 1) rfl;have x2 := kx.out.cell (i := 2) rfl
    go_wp2_with fail
    clear x0 x1 x2
    (((with_reducible refine (S1.out _).mono ?_); rintro e w1 ⟨rfl, hb1⟩); replace HB := Lib.hid (HB.out.trans (hb1.mono HB.out.size)); replace kx := Lib.hid (kx.out.keep hb1); replace ky := Lib.hid (ky.out.keep hb1); replace kz := Lib.hid (kz.out.keep hb1); replace ku := Lib.hid (ku.out.keep hb1); clear hb1)
    have y0 := ky.out.cell (i := 0) rfl;have y1 := ky.out.cell (i := 1) rfl;have y2 := ky.out.cell (i := 2) rfl
    go_wp2_with fail
    clear y0 y1 y2
    (((with_reducible refine (S2.out _).mono ?_); rintro e w2 ⟨rfl, hb2⟩); replace HB := Lib.hid (HB.out.trans (hb2.mono HB.out.size)); replace kx := Lib.hid (kx.out.keep hb2); replace ky := Lib.hid (ky.out.keep hb2); replace kz := Lib.hid (kz.out.keep hb2); replace ku := Lib.hid (ku.out.keep hb2); clear hb2)
    have z0 := kz.out.cell (i := 0) rfl;have z1 := kz.out.cell (i := 1) rfl;have z2 := kz.out.cell (i := 2) rfl
    go_wp2_with fail
    clear z0 z1 z2
    (((with_reducible refine (S3.out _).mono ?_); rintro e w3 ⟨rfl, hb3⟩); replace HB := Lib.hid (HB.out.trans (hb3.mono HB.out.size)); replace kx := Lib.hid (kx.out.keep hb3); replace ky := Lib.hid (ky.out.keep hb3); replace kz := Lib.hid (kz.out.keep hb3); replace ku := Lib.hid (ku.out.keep hb3); clear hb3)
    have u0 := ku.out.cell (i := 0) rfl;have u1 := ku.out.cell (i := 1) rfl;have u2 := ku.out.cell (i := 2) rfl;have fu0 := ku.out.frozen 0;have fu1 := ku.out.frozen 1;have fu2 := ku.out.frozen 2
    go_wp2_with fail
    exact bodyPost_ret (v := .tuple #[.agg #[.int .i64 0, .int .i64 0, .int .i64 0], .int .i64 5]) (by simp [results, Tryz.results51, go_sem, u0, u1, u2]) rfl ⟨rfl, ((HB.out.setCell (by simp <;> omega) _).setCell (by simp <;> omega) _).setCell (by simp <;> omega) _⟩
   | true =>
    rw [h3] at S3
    show Calls _ _ _ _ fun e' w' => e' = .returned (.tuple #[.agg #[.int .i64 (ar a2 a3 b2 b3 c2 c3), .int .i64 (ar a3 a1 b3 b1 c3 c1), .int .i64 (ar a1 a2 b1 b2 c1 c2)], .int .i64 0]) ∧ _
    have U1 := Lib.hid (fun W => rsub3_sm h1 h2 W);have U2 := Lib.hid (fun W => rsub3_sm h1 h3 W);have X := Lib.hid (fun W => rcross3_sm h1 h2 h3 W);generalize ar a2 a3 b2 b3 c2 c3 = n1 at *;generalize ar a3 a1 b3 b1 c3 c1 = n2 at *;generalize ar a1 a2 b1 b2 c1 c2 = n3 at *;clear h1 h2 h3
    go_enter Tryz.func51, Tryz.ntmps51
    go_upto_region 1 with fail
    have hbx := below_new1 w (.cells #[.int .i64 a1, .int .i64 a2, .int .i64 a3] 57)
    have zx : (w.alloc (.cells #[.int .i64 a1, .int .i64 a2, .int .i64 a3] 57)).heap.size = w.heap.size + 1 := by simp
    have HB := Lib.hid hbx;have kx := Lib.hid (Lok.new w 57 #[.int .i64 a1, .int .i64 a2, .int .i64 a3]);clear hbx;generalize w.alloc (.cells #[.int .i64 a1, .int .i64 a2, .int .i64 a3] 57) = Vx at *;have hby := below_new1 Vx (.cells #[.int .i64 b1, .int .i64 b2, .int .i64 b3] 57);replace kx := Lib.hid (kx.out.keep hby)
    have zy : (Vx.alloc (.cells #[.int .i64 b1, .int .i64 b2, .int .i64 b3] 57)).heap.size = Vx.heap.size + 1 := by simp
    replace HB := Lib.hid (HB.out.trans (hby.mono HB.out.size));have ky := Lib.hid (Lok.new Vx 57 #[.int .i64 b1, .int .i64 b2, .int .i64 b3]);clear hby;generalize Vx.alloc (.cells #[.int .i64 b1, .int .i64 b2, .int .i64 b3] 57) = Vy at *;rw [zx] at ky zy;have hbz := below_new1 Vy (.cells #[.int .i64 c1, .int .i64 c2, .int .i64 c3] 57);replace kx := Lib.hid (kx.out.keep hbz);replace ky := Lib.hid (ky.out.keep hbz)
    have zz : (Vy.alloc (.cells #[.int .i64 c1, .int .i64 c2, .int .i64 c3] 57)).heap.size = Vy.heap.size + 1 := by simp
    replace HB := Lib.hid (HB.out.trans (hbz.mono HB.out.size));have kz := Lib.hid (Lok.new Vy 57 #[.int .i64 c1, .int .i64 c2, .int .i64 c3]);clear hbz;generalize Vy.alloc (.cells #[.int .i64 c1, .int .i64 c2, .int .i64 c3] 57) = Vz at *;rw [zy] at kz zz;have hbu := below_new1 Vz (.cells #[.int .i64 0, .int .i64 0, .int .i64 0] 57);replace kx := Lib.hid (kx.out.keep hbu);replace ky := Lib.hid (ky.out.keep hbu);replace kz := Lib.hid (kz.out.keep hbu)
    have zu : (Vz.alloc (.cells #[.int .i64 0, .int .i64 0, .int .i64 0] 57)).heap.size = Vz.heap.size + 1 := by simp
    replace HB := Lib.hid (HB.out.trans (hbu.mono HB.out.size));have ku := Lib.hid (Lok.new Vz 57 #[.int .i64 0, .int .i64 0, .int .i64 0]);clear hbu;generalize Vz.alloc (.cells #[.int .i64 0, .int .i64 0, .int .i64 0] 57) = Vu at *;rw [zz] at ku;clear zx zy zz zu;have x0 := kx.out.cell (i := 0) rfl;have x1 := kx.out.cell (i := 1) rfl;have x2 := kx.out.cell (i := 2) rfl
    go_wp2_with fail
    clear x0 x1 x2
    (((with_reducible refine (S1.out _).mono ?_); rintro e w1 ⟨rfl, hb1⟩); replace HB := Lib.hid (HB.out.trans (hb1.mono HB.out.size)); replace kx := Lib.hid (kx.out.keep hb1); replace ky := Lib.hid (ky.out.keep hb1); replace kz := Lib.hid (kz.out.keep hb1); replace ku := Lib.hid (ku.out.keep hb1); clear hb1)
    have y0 := ky.out.cell (i := 0) rfl;have y1 := ky.out.cell (i := 1) rfl;have y2 := ky.out.cell (i := 2) rfl
    go_wp2_with fail
    clear y0 y1 y2
    (((with_reducible refine (S2.out _).mono ?_); rintro e w2 ⟨rfl, hb2⟩); replace HB := Lib.hid (HB.out.trans (hb2.mono HB.out.size)); replace kx := Lib.hid (kx.out.keep hb2); replace ky := Lib.hid (ky.out.keep hb2); replace kz := Lib.hid (kz.out.keep hb2); replace ku := Lib.hid (ku.out.keep hb2); clear hb2)
    have z0 := kz.out.cell (i := 0) rfl;have z1 := kz.out.cell (i := 1) rfl;have z2 := kz.out.cell (i := 2) rfl
    go_wp2_with fail
    clear z0 z1 z2
    (((with_reducible refine (S3.out _).mono ?_); rintro e w3 ⟨rfl, hb3⟩); replace HB := Lib.hid (HB.out.trans (hb3.mono HB.out.size)); replace kx := Lib.hid (kx.out.keep hb3); replace ky := Lib.hid (ky.out.keep hb3); replace kz := Lib.hid (kz.out.keep hb3); replace ku := Lib.hid (ku.out.keep hb3); clear hb3)
    clear S1 S2 S3
    go_upto_region 3 with fail
    refine wp_region_rel (by kernel_rfl) [24, 25, 26, 27, 28, 29, 30, 31, 32, 33, 8, 9] ?Fr1 ?hFr1
     (fun L u W => Below w3.heap.size w3 W ∧ (L 0 = true → u 25 = .agg #[.int .i64 b1, .int .i64 b2, .int .i64 b3]) ∧ (L 1 = true → u 26 = .agg #[.int .i64 a1, .int .i64 a2, .int .i64 a3]) ∧ (L 2 = true → u 27 = .agg #[.int .i64 (b1 - a1), .int .i64 (b2 - a2), .int .i64 (b3 - a3)]) ∧ (L 3 = true → u 28 = .agg #[.int .i64 c1, .int .i64 c2, .int .i64 c3]) ∧ (L 4 = true → u 29 = .agg #[.int .i64 a1, .int .i64 a2, .int .i64 a3]) ∧ (L 5 = true → u 30 = .agg #[.int .i64 (c1 - a1), .int .i64 (c2 - a2), .int .i64 (c3 - a3)]) ∧ (L 6 = true → u 31 = .tuple #[.agg #[.int .i64 n1, .int .i64 n2, .int .i64 n3], .int .i64 0]) ∧ (L 7 = true → u 24 = .tuple #[.agg #[.int .i64 n1, .int .i64 n2, .int .i64 n3], .int .i64 0]) ∧ (L 8 = true → u 32 = .agg #[.int .i64 n1, .int .i64 n2, .int .i64 n3]) ∧ (L 9 = true → u 33 = .int .i64 0) ∧ (L 12 = true → u 9 = .int .i64 0) ∧ (L 10 = true → ∃ (g : Nat) (x10_0 x10_1 x10_2 : Value), u 8 = .pointer (some ⟨g, 0, none⟩) ∧ w3.heap.size ≤ g ∧ Lok W g 57 #[x10_0, x10_1, x10_2] ∧ (L 11 = true → x10_0 = .int .i64 n1 ∧ x10_1 = .int .i64 n2 ∧ x10_2 = .int .i64 n3)) ∧ (L 11 = true → L 10 = true)) (by kernel_rfl) (by kernel_rfl) 13 rfl ?h0r1 ?stepr1 ?finr1
    case hFr1 => intro u; simp only [putAll, Act.put, List.setIfInBounds_toArray, List.set]; exact rfl
    case h0r1 => intro L u hL; exact ⟨(Below.refl _ _).drew, (fun h => by simp [hL] at h), (fun h => by simp [hL] at h), (fun h => by simp [hL] at h), (fun h => by simp [hL] at h), (fun h => by simp [hL] at h), (fun h => by simp [hL] at h), (fun h => by simp [hL] at h), (fun h => by simp [hL] at h), (fun h => by simp [hL] at h), (fun h => by simp [hL] at h), (fun h => by simp [hL] at h), (fun h => by simp [hL] at h), (fun h => by simp [hL] at h)⟩
    case stepr1 =>
     refine ops_all (ops_cons ?s0r1 (ops_cons ?s1r1 (ops_cons ?s2r1 (ops_cons ?s3r1 (ops_cons ?s4r1 (ops_cons ?s5r1 (ops_cons ?s6r1 (ops_cons ?s7r1 (ops_cons ?s8r1 (ops_cons ?s9r1 (ops_cons ?s10r1 (ops_cons ?s11r1 (ops_cons ?s12r1 (ops_nil))))))))))))))
     case s0r1 =>
      rintro L u W ⟨hB, c0, c1, c2, c3, c4, c5, c6, c7, c8, c9, c12, c10, d11⟩ hf hd K hK
      dsimp only at hK
      have t0 := (ky.out.keep hB).cell (i := 0) rfl;have t1 := (ky.out.keep hB).cell (i := 1) rfl;have t2 := (ky.out.keep hB).cell (i := 2) rfl;clear hd
      go_simp
      refine hK _ _ ?_ (fun h => by cases h)
      intro s hs
      cases hs
      exact ⟨hB, (fun _ => rfl), c1, c2, c3, c4, c5, c6, c7, c8, c9, c12, c10, d11⟩
     case s1r1 =>
      rintro L u W ⟨hB, c0, c1, c2, c3, c4, c5, c6, c7, c8, c9, c12, c10, d11⟩ hf hd K hK
      dsimp only at hK
      have t0 := (kx.out.keep hB).cell (i := 0) rfl;have t1 := (kx.out.keep hB).cell (i := 1) rfl;have t2 := (kx.out.keep hB).cell (i := 2) rfl;clear hd
      go_simp
      refine hK _ _ ?_ (fun h => by cases h)
      intro s hs
      cases hs
      exact ⟨hB, c0, (fun _ => rfl), c2, c3, c4, c5, c6, c7, c8, c9, c12, c10, d11⟩
     case s2r1 =>
      rintro L u W ⟨hB, c0, c1, c2, c3, c4, c5, c6, c7, c8, c9, c12, c10, d11⟩ hf hd K hK
      dsimp only at hK
      have hd0 : L 0 = true := (by first | exact hd ⟨0, .data⟩ (by simp) rfl | exact hd ⟨0, .guard⟩ (by simp) rfl | exact hd ⟨0, .phase⟩ (by simp) rfl | exact hd ⟨0, .chain⟩ (by simp) rfl);have hd1 : L 1 = true := (by first | exact hd ⟨1, .data⟩ (by simp) rfl | exact hd ⟨1, .guard⟩ (by simp) rfl | exact hd ⟨1, .phase⟩ (by simp) rfl | exact hd ⟨1, .chain⟩ (by simp) rfl);have e0 := c0 hd0;rw [e0] at hK;have e1 := c1 hd1;rw [e1] at hK;clear hd0;clear hd1;clear hd
      go_simp
      go_wp2_with (go_at_call 75; ((with_reducible refine (U1.out _).mono ?_); rintro e w5 ⟨rfl, hb⟩))
      refine hK _ _ ?_ (fun h => by cases h)
      intro s hs
      cases hs
      exact ⟨hB.trans (hb.mono hB.size), c0, c1, (fun _ => rfl), c3, c4, c5, c6, c7, c8, c9, c12, (fun h => by obtain ⟨g, x10_0, x10_1, x10_2, k1, k2, k3, k4⟩ := c10 h; exact ⟨g, x10_0, x10_1, x10_2, k1, k2, k3.keep hb, k4⟩), d11⟩
     case s3r1 =>
      rintro L u W ⟨hB, c0, c1, c2, c3, c4, c5, c6, c7, c8, c9, c12, c10, d11⟩ hf hd K hK
      dsimp only at hK
      have t0 := (kz.out.keep hB).cell (i := 0) rfl;have t1 := (kz.out.keep hB).cell (i := 1) rfl;have t2 := (kz.out.keep hB).cell (i := 2) rfl;clear hd
      go_simp
      refine hK _ _ ?_ (fun h => by cases h)
      intro s hs
      cases hs
      exact ⟨hB, c0, c1, c2, (fun _ => rfl), c4, c5, c6, c7, c8, c9, c12, c10, d11⟩
     case s4r1 =>
      rintro L u W ⟨hB, c0, c1, c2, c3, c4, c5, c6, c7, c8, c9, c12, c10, d11⟩ hf hd K hK
      dsimp only at hK
      have t0 := (kx.out.keep hB).cell (i := 0) rfl;have t1 := (kx.out.keep hB).cell (i := 1) rfl;have t2 := (kx.out.keep hB).cell (i := 2) rfl;clear hd
      go_simp
      refine hK _ _ ?_ (fun h => by cases h)
      intro s hs
      cases hs
      exact ⟨hB, c0, c1, c2, c3, (fun _ => rfl), c5, c6, c7, c8, c9, c12, c10, d11⟩
     case s5r1 =>
      rintro L u W ⟨hB, c0, c1, c2, c3, c4, c5, c6, c7, c8, c9, c12, c10, d11⟩ hf hd K hK
      dsimp only at hK
      have hd3 : L 3 = true := (by first | exact hd ⟨3, .data⟩ (by simp) rfl | exact hd ⟨3, .guard⟩ (by simp) rfl | exact hd ⟨3, .phase⟩ (by simp) rfl | exact hd ⟨3, .chain⟩ (by simp) rfl);have hd4 : L 4 = true := (by first | exact hd ⟨4, .data⟩ (by simp) rfl | exact hd ⟨4, .guard⟩ (by simp) rfl | exact hd ⟨4, .phase⟩ (by simp) rfl | exact hd ⟨4, .chain⟩ (by simp) rfl);have e3 := c3 hd3;rw [e3] at hK;have e4 := c4 hd4;rw [e4] at hK;clear hd3;clear hd4;clear hd
      go_simp
      go_wp2_with (go_at_call 75; ((with_reducible refine (U2.out _).mono ?_); rintro e w5 ⟨rfl, hb⟩))
      refine hK _ _ ?_ (fun h => by cases h)
      intro s hs
      cases hs
      exact ⟨hB.trans (hb.mono hB.size), c0, c1, c2, c3, c4, (fun _ => rfl), c6, c7, c8, c9, c12, (fun h => by obtain ⟨g, x10_0, x10_1, x10_2, k1, k2, k3, k4⟩ := c10 h; exact ⟨g, x10_0, x10_1, x10_2, k1, k2, k3.keep hb, k4⟩), d11⟩
     case s6r1 =>
      rintro L u W ⟨hB, c0, c1, c2, c3, c4, c5, c6, c7, c8, c9, c12, c10, d11⟩ hf hd K hK
      dsimp only at hK
      have hd2 : L 2 = true := (by first | exact hd ⟨2, .data⟩ (by simp) rfl | exact hd ⟨2, .guard⟩ (by simp) rfl | exact hd ⟨2, .phase⟩ (by simp) rfl | exact hd ⟨2, .chain⟩ (by simp) rfl);have hd5 : L 5 = true := (by first | exact hd ⟨5, .data⟩ (by simp) rfl | exact hd ⟨5, .guard⟩ (by simp) rfl | exact hd ⟨5, .phase⟩ (by simp) rfl | exact hd ⟨5, .chain⟩ (by simp) rfl);have e2 := c2 hd2;rw [e2] at hK;have e5 := c5 hd5;rw [e5] at hK;clear hd2;clear hd5;clear hd
      go_simp
      go_wp2_with (go_at_call 74; ((with_reducible refine (X.out _).mono ?_); rintro e w5 ⟨rfl, hb⟩))
      refine hK _ _ ?_ (fun h => by cases h)
      intro s hs
      cases hs
      exact ⟨hB.trans (hb.mono hB.size), c0, c1, c2, c3, c4, c5, (fun _ => rfl), c7, c8, c9, c12, (fun h => by obtain ⟨g, x10_0, x10_1, x10_2, k1, k2, k3, k4⟩ := c10 h; exact ⟨g, x10_0, x10_1, x10_2, k1, k2, k3.keep hb, k4⟩), d11⟩
     case s7r1 =>
      rintro L u W ⟨hB, c0, c1, c2, c3, c4, c5, c6, c7, c8, c9, c12, c10, d11⟩ hf hd K hK
      dsimp only at hK
      have hd6 : L 6 = true := (by first | exact hd ⟨6, .data⟩ (by simp) rfl | exact hd ⟨6, .guard⟩ (by simp) rfl | exact hd ⟨6, .phase⟩ (by simp) rfl | exact hd ⟨6, .chain⟩ (by simp) rfl);have e6 := c6 hd6;rw [e6] at hK;clear hd6;clear hd
      go_simp
      refine hK _ _ ?_ (fun h => by cases h)
      intro s hs
      cases hs
      exact ⟨hB, c0, c1, c2, c3, c4, c5, c6, (fun _ => rfl), c8, c9, c12, c10, d11⟩
     case s8r1 =>
      rintro L u W ⟨hB, c0, c1, c2, c3, c4, c5, c6, c7, c8, c9, c12, c10, d11⟩ hf hd K hK
      dsimp only at hK
      have hd7 : L 7 = true := (by first | exact hd ⟨7, .data⟩ (by simp) rfl | exact hd ⟨7, .guard⟩ (by simp) rfl | exact hd ⟨7, .phase⟩ (by simp) rfl | exact hd ⟨7, .chain⟩ (by simp) rfl);have e7 := c7 hd7;rw [e7] at hK;clear hd7;clear hd
      go_simp
      refine hK _ _ ?_ (fun h => by cases h)
      intro s hs
      cases hs
      exact ⟨hB, c0, c1, c2, c3, c4, c5, c6, c7, (fun _ => rfl), c9, c12, c10, d11⟩
     case s9r1 =>
      rintro L u W ⟨hB, c0, c1, c2, c3, c4, c5, c6, c7, c8, c9, c12, c10, d11⟩ hf hd K hK
      dsimp only at hK
      have hd7 : L 7 = true := (by first | exact hd ⟨7, .data⟩ (by simp) rfl | exact hd ⟨7, .guard⟩ (by simp) rfl | exact hd ⟨7, .phase⟩ (by simp) rfl | exact hd ⟨7, .chain⟩ (by simp) rfl);have e7 := c7 hd7;rw [e7] at hK;clear hd7;clear hd
      go_simp
      refine hK _ _ ?_ (fun h => by cases h)
      intro s hs
      cases hs
      exact ⟨hB, c0, c1, c2, c3, c4, c5, c6, c7, c8, (fun _ => rfl), c12, c10, d11⟩
     case s10r1 =>
      rintro L u W ⟨hB, c0, c1, c2, c3, c4, c5, c6, c7, c8, c9, c12, c10, d11⟩ hf hd K hK
      dsimp only at hK
      go_simp
      have hb : Below W.heap.size W (W.alloc (.cells #[.int .i64 0, .int .i64 0, .int .i64 0] 57)) := (Below.refl _ W).alloc (Nat.le_refl _) _
      refine hK _ _ ?_ (fun h => by cases h)
      intro s hs
      cases hs
      exact ⟨hB.trans (hb.mono hB.size), c0, c1, c2, c3, c4, c5, c6, c7, c8, c9, c12, (fun _ => ⟨_, _, _, _, rfl, hB.size, Lok.new _ _ _, fun h => absurd (d11 h) (by rw [hf]; decide)⟩), (fun _ => rfl)⟩
     case s11r1 =>
      rintro L u W ⟨hB, c0, c1, c2, c3, c4, c5, c6, c7, c8, c9, c12, c10, d11⟩ hf hd K hK
      dsimp only at hK
      have hd10 : L 10 = true := hd ⟨10, .data⟩ (by simp) rfl;have hd8 : L 8 = true := (by first | exact hd ⟨8, .data⟩ (by simp) rfl | exact hd ⟨8, .guard⟩ (by simp) rfl | exact hd ⟨8, .phase⟩ (by simp) rfl | exact hd ⟨8, .chain⟩ (by simp) rfl);obtain ⟨g, x10_0, x10_1, x10_2, e10, k2, k3, k4⟩ := c10 hd10;rw [e10] at hK;have e8 := c8 hd8;rw [e8] at hK;have t0 := k3.cell (i := 0) rfl;have f0 := k3.frozen 0;have t1 := k3.cell (i := 1) rfl;have f1 := k3.frozen 1;have t2 := k3.cell (i := 2) rfl;have f2 := k3.frozen 2;have HH := Lib.hid (And.intro trivial trivial);clear hd;have hd10' := Lib.hid hd10;clear hd10;have hd8' := Lib.hid hd8;clear hd8
      go_simp
      have hd10 := hd10'.out;have hd8 := hd8'.out;have hlok := ((k3.set (i := 0) (v := .int .i64 n1)).set (i := 1) (v := .int .i64 n2)).set (i := 2) (v := .int .i64 n3)
      refine hK undef _ (fun s h => by cases h) (fun _ => ?_)
      exact ⟨((hB.setCell k2 _).setCell k2 _).setCell k2 _, c0, c1, c2, c3, c4, c5, c6, c7, (fun _ => rfl), c9, c12, (fun _ => ⟨g, _, _, _, rfl, k2, hlok, fun _ => ⟨rfl, rfl, rfl⟩⟩), (fun _ => hd10)⟩
     case s12r1 =>
      rintro L u W ⟨hB, c0, c1, c2, c3, c4, c5, c6, c7, c8, c9, c12, c10, d11⟩ hf hd K hK
      dsimp only at hK
      have hd9 : L 9 = true := (by first | exact hd ⟨9, .data⟩ (by simp) rfl | exact hd ⟨9, .guard⟩ (by simp) rfl | exact hd ⟨9, .phase⟩ (by simp) rfl | exact hd ⟨9, .chain⟩ (by simp) rfl);have e9 := c9 hd9;rw [e9] at hK;clear hd9;clear hd
      go_simp
      refine hK _ _ ?_ (fun h => by cases h)
      intro s hs
      cases hs
      exact ⟨hB, c0, c1, c2, c3, c4, c5, c6, c7, c8, c9, (fun _ => rfl), c10, d11⟩
    case finr1 =>
     rintro L u W hL ⟨hB, c0, c1, c2, c3, c4, c5, c6, c7, c8, c9, c12, c10, d11⟩
     have e0 := c0 (hL 0 (by decide));have e1 := c1 (hL 1 (by decide));have e2 := c2 (hL 2 (by decide));have e3 := c3 (hL 3 (by decide));have e4 := c4 (hL 4 (by decide));have e5 := c5 (hL 5 (by decide));have e6 := c6 (hL 6 (by decide));have e7 := c7 (hL 7 (by decide));have e8 := c8 (hL 8 (by decide));have e9 := c9 (hL 9 (by decide));have e12 := c12 (hL 12 (by decide));obtain ⟨g10, x10_0, x10_1, x10_2, e10, hg10, hlok10, hst10⟩ := c10 (hL 10 (by decide));obtain ⟨rfl, rfl, rfl⟩ := hst10 (hL 11 (by decide));clear hst10;clear hL c0 c1 c2 c3 c4 c5 c6 c7 c8 c9 c12 c10 d11
     try simp only [e0, e1, e2, e3, e4, e5, e6, e7, e8, e9, e12, e10]
     clear e0 e1 e2 e3 e4 e5 e6 e7 e8 e9 e12 e10;have z0 := hlok10.cell (i := 0) rfl;have z1 := hlok10.cell (i := 1) rfl;have z2 := hlok10.cell (i := 2) rfl;replace ku := Lib.hid (ku.out.keep hB);have u0 := ku.out.cell (i := 0) rfl;have u1 := ku.out.cell (i := 1) rfl;have u2 := ku.out.cell (i := 2) rfl;have fu0 := ku.out.frozen 0;have fu1 := ku.out.frozen 1;have fu2 := ku.out.frozen 2;replace HB := Lib.hid (HB.out.trans (hB.mono HB.out.size))
     go_wp2_with fail
     exact bodyPost_ret (v := .tuple #[.agg #[.int .i64 n1, .int .i64 n2, .int .i64 n3], .int .i64 0]) (by simp [results, Tryz.results51, go_sem, u0, u1, u2]) rfl ⟨rfl, ((HB.out.setCell (by simp <;> omega) _).setCell (by simp <;> omega) _).setCell (by simp <;> omega) _⟩
set_option maxRecDepth 100000 in
set_option maxHeartbeats 8000000 in
theorem rfacing_any (a1 a2 a3 b1 b2 b3 c1 c2 c3 : Int) (t : Bool) (ht : (s3 a1 a2 a3 && s3 b1 b2 b3 && s3 c1 c2 c3) = t) (w : World) :
  Calls Tryz.prog 26 #[.agg #[.int .i64 a1, .int .i64 a2, .int .i64 a3], .agg #[.int .i64 b1, .int .i64 b2, .int .i64 b3], .agg #[.int .i64 c1, .int .i64 c2, .int .i64 c3]] w fun e' w' => e' = .returned (.tuple #[.int .i64 (fcA t (ar a2 a3 b2 b3 c2 c3) (ar a3 a1 b3 b1 c3 c1) (ar a1 a2 b1 b2 c1 c2)), .int .i64 (fcS t (ar a2 a3 b2 b3 c2 c3) (ar a3 a1 b3 b1 c3 c1) (ar a1 a2 b1 b2 c1 c2)), .int .i64 (fcE t (ar a2 a3 b2 b3 c2 c3) (ar a3 a1 b3 b1 c3 c1) (ar a1 a2 b1 b2 c1 c2))]) ∧ Below w.heap.size w w' := by
 have HB := Lib.hid (Below.refl w.heap.size w);have Q := Lib.hid (fun W => rnormal_any a1 a2 a3 b1 b2 b3 c1 c2 c3 t ht W)
 cases t with
 | false =>
  rw [vF_no, vF_no, vF_no, show rE false = 5 from rfl] at Q;rw [show fcA false (ar a2 a3 b2 b3 c2 c3) (ar a3 a1 b3 b1 c3 c1) (ar a1 a2 b1 b2 c1 c2) = 0 from rfl, show fcS false (ar a2 a3 b2 b3 c2 c3) (ar a3 a1 b3 b1 c3 c1) (ar a1 a2 b1 b2 c1 c2) = 0 from rfl, show fcE false (ar a2 a3 b2 b3 c2 c3) (ar a3 a1 b3 b1 c3 c1) (ar a1 a2 b1 b2 c1 c2) = 5 from rfl];clear ht
  go_enter Tryz.func26, Tryz.ntmps26
  go_upto_region 1 with fail
  have hbx := below_new1 w (.cells #[.int .i64 a1, .int .i64 a2, .int .i64 a3] 57)
  have zx : (w.alloc (.cells #[.int .i64 a1, .int .i64 a2, .int .i64 a3] 57)).heap.size = w.heap.size + 1 := by simp
  have HB := Lib.hid hbx;have kx := Lib.hid (Lok.new w 57 #[.int .i64 a1, .int .i64 a2, .int .i64 a3]);clear hbx;generalize w.alloc (.cells #[.int .i64 a1, .int .i64 a2, .int .i64 a3] 57) = Vx at *;have hby := below_new1 Vx (.cells #[.int .i64 b1, .int .i64 b2, .int .i64 b3] 57);replace kx := Lib.hid (kx.out.keep hby)
  have zy : (Vx.alloc (.cells #[.int .i64 b1, .int .i64 b2, .int .i64 b3] 57)).heap.size = Vx.heap.size + 1 := by simp
  replace HB := Lib.hid (HB.out.trans (hby.mono HB.out.size));have ky := Lib.hid (Lok.new Vx 57 #[.int .i64 b1, .int .i64 b2, .int .i64 b3]);clear hby;generalize Vx.alloc (.cells #[.int .i64 b1, .int .i64 b2, .int .i64 b3] 57) = Vy at *;rw [zx] at ky zy;have hbz := below_new1 Vy (.cells #[.int .i64 c1, .int .i64 c2, .int .i64 c3] 57);replace kx := Lib.hid (kx.out.keep hbz);replace ky := Lib.hid (ky.out.keep hbz)
  have zz : (Vy.alloc (.cells #[.int .i64 c1, .int .i64 c2, .int .i64 c3] 57)).heap.size = Vy.heap.size + 1 := by simp
  replace HB := Lib.hid (HB.out.trans (hbz.mono HB.out.size));have kz := Lib.hid (Lok.new Vy 57 #[.int .i64 c1, .int .i64 c2, .int .i64 c3]);clear hbz;generalize Vy.alloc (.cells #[.int .i64 c1, .int .i64 c2, .int .i64 c3] 57) = Vz at *;rw [zy] at kz;clear zx zy zz;have x0 := kx.out.cell (i := 0) rfl;have x1 := kx.out.cell (i := 1) rfl;have x2 := kx.out.cell (i := 2) rfl;have y0 := ky.out.cell (i := 0) rfl;have y1 := ky.out.cell (i := 1) rfl;have y2 := ky.out.cell (i := 2) rfl;have z0 := kz.out.cell (i := 0) rfl;have z1 := kz.out.cell (i := 1) rfl;have z2 := kz.out.cell (i := 2) rfl
  go_wp2_with fail
  clear x0 x1 x2 y0 y1 y2 z0 z1 z2;((with_reducible refine (Q.out _).mono ?_); rintro e wn ⟨rfl, hbn⟩);replace HB := Lib.hid (HB.out.trans (hbn.mono HB.out.size));replace kx := Lib.hid (kx.out.keep hbn);replace ky := Lib.hid (ky.out.keep hbn);replace kz := Lib.hid (kz.out.keep hbn);clear hbn
  go_upto_region 2 with fail
  have hbn := below_new1 wn (.cells #[.int .i64 0, .int .i64 0, .int .i64 0] 57);replace HB := Lib.hid (HB.out.trans (hbn.mono HB.out.size));replace kx := Lib.hid (kx.out.keep hbn);replace ky := Lib.hid (ky.out.keep hbn);replace kz := Lib.hid (kz.out.keep hbn);have kn := Lib.hid (Lok.new wn 57 #[.int .i64 0, .int .i64 0, .int .i64 0]);clear hbn;generalize wn.alloc (.cells #[.int .i64 0, .int .i64 0, .int .i64 0] 57) = Vn at *;generalize wn.heap.size = gn at *
  go_wp2
  go_ret3
  exact ⟨rfl, HB.out⟩
 | true =>
  rw [vF_yes, vF_yes, vF_yes, show rE true = 0 from rfl] at Q;obtain ⟨i1, i2, i3⟩ := normal_i64 ht;generalize ar a2 a3 b2 b3 c2 c3 = n1 at *;generalize ar a3 a1 b3 b1 c3 c1 = n2 at *;generalize ar a1 a2 b1 b2 c1 c2 = n3 at *;clear ht
  cases hz : q3 n1 n2 n3 0 0 0 with
  | true =>
   rw [show fcA true n1 n2 n3 = 0 from if_neg (by rw [hz]; simp), show fcS true n1 n2 n3 = 0 from if_neg (by rw [hz]; simp), show fcE true n1 n2 n3 = 3 from by unfold fcE; rw [hz]; rfl];clear i1 i2 i3
   go_enter Tryz.func26, Tryz.ntmps26
   go_upto_region 1 with fail
   have hbx := below_new1 w (.cells #[.int .i64 a1, .int .i64 a2, .int .i64 a3] 57)
   have zx : (w.alloc (.cells #[.int .i64 a1, .int .i64 a2, .int .i64 a3] 57)).heap.size = w.heap.size + 1 := by simp
   have HB := Lib.hid hbx;have kx := Lib.hid (Lok.new w 57 #[.int .i64 a1, .int .i64 a2, .int .i64 a3]);clear hbx;generalize w.alloc (.cells #[.int .i64 a1, .int .i64 a2, .int .i64 a3] 57) = Vx at *;have hby := below_new1 Vx (.cells #[.int .i64 b1, .int .i64 b2, .int .i64 b3] 57);replace kx := Lib.hid (kx.out.keep hby)
   have zy : (Vx.alloc (.cells #[.int .i64 b1, .int .i64 b2, .int .i64 b3] 57)).heap.size = Vx.heap.size + 1 := by simp
   replace HB := Lib.hid (HB.out.trans (hby.mono HB.out.size));have ky := Lib.hid (Lok.new Vx 57 #[.int .i64 b1, .int .i64 b2, .int .i64 b3]);clear hby;generalize Vx.alloc (.cells #[.int .i64 b1, .int .i64 b2, .int .i64 b3] 57) = Vy at *;rw [zx] at ky zy;have hbz := below_new1 Vy (.cells #[.int .i64 c1, .int .i64 c2, .int .i64 c3] 57);replace kx := Lib.hid (kx.out.keep hbz);replace ky := Lib.hid (ky.out.keep hbz)
   have zz : (Vy.alloc (.cells #[.int .i64 c1, .int .i64 c2, .int .i64 c3] 57)).heap.size = Vy.heap.size + 1 := by simp
   replace HB := Lib.hid (HB.out.trans (hbz.mono HB.out.size));have kz := Lib.hid (Lok.new Vy 57 #[.int .i64 c1, .int .i64 c2, .int .i64 c3]);clear hbz;generalize Vy.alloc (.cells #[.int .i64 c1, .int .i64 c2, .int .i64 c3] 57) = Vz at *;rw [zy] at kz;clear zx zy zz;have x0 := kx.out.cell (i := 0) rfl;have x1 := kx.out.cell (i := 1) rfl;have x2 := kx.out.cell (i := 2) rfl;have y0 := ky.out.cell (i := 0) rfl;have y1 := ky.out.cell (i := 1) rfl;have y2 := ky.out.cell (i := 2) rfl;have z0 := kz.out.cell (i := 0) rfl;have z1 := kz.out.cell (i := 1) rfl;have z2 := kz.out.cell (i := 2) rfl
   go_wp2_with fail
   clear x0 x1 x2 y0 y1 y2 z0 z1 z2;((with_reducible refine (Q.out _).mono ?_); rintro e wn ⟨rfl, hbn⟩);replace HB := Lib.hid (HB.out.trans (hbn.mono HB.out.size));replace kx := Lib.hid (kx.out.keep hbn);replace ky := Lib.hid (ky.out.keep hbn);replace kz := Lib.hid (kz.out.keep hbn);clear hbn
   go_upto_region 2 with fail
   have hbn := below_new1 wn (.cells #[.int .i64 n1, .int .i64 n2, .int .i64 n3] 57);replace HB := Lib.hid (HB.out.trans (hbn.mono HB.out.size));replace kx := Lib.hid (kx.out.keep hbn);replace ky := Lib.hid (ky.out.keep hbn);replace kz := Lib.hid (kz.out.keep hbn);have kn := Lib.hid (Lok.new wn 57 #[.int .i64 n1, .int .i64 n2, .int .i64 n3]);clear hbn;generalize wn.alloc (.cells #[.int .i64 n1, .int .i64 n2, .int .i64 n3] 57) = Vn at *;generalize wn.heap.size = gn at *
   go_upto_region 5 with fail
   have hbo := below_new1 Vn (.cells #[.int .i64 0, .int .i64 0, .int .i64 0] 57);replace kn := Lib.hid (kn.out.keep hbo)
   have zo : (Vn.alloc (.cells #[.int .i64 0, .int .i64 0, .int .i64 0] 57)).heap.size = Vn.heap.size + 1 := by simp
   replace HB := Lib.hid (HB.out.trans (hbo.mono HB.out.size));have ko := Lib.hid (Lok.new Vn 57 #[.int .i64 0, .int .i64 0, .int .i64 0]);clear hbo;generalize Vn.alloc (.cells #[.int .i64 0, .int .i64 0, .int .i64 0] 57) = Vo at *;clear zo;generalize Vn.heap.size = go at *;have n0 := kn.out.cell (i := 0) rfl;have n1 := kn.out.cell (i := 1) rfl;have n2 := kn.out.cell (i := 2) rfl;have o0 := ko.out.cell (i := 0) rfl;have o1 := ko.out.cell (i := 1) rfl;have o2 := ko.out.cell (i := 2) rfl
   go_wp2
   go_ret3
   exact ⟨rfl, HB.out⟩
  | false =>
   rw [show fcA true n1 n2 n3 = (axF n1 n2 n3 3 : Int) from if_pos ⟨rfl, hz⟩, show fcS true n1 n2 n3 = ordI (pt n1 n2 n3 (axF n1 n2 n3 3)) 0 from if_pos ⟨rfl, hz⟩, show fcE true n1 n2 n3 = 0 from by unfold fcE; rw [hz]; rfl];have A := Lib.hid (fun W => raxis_any n1 n2 n3 W i1 i2 i3)
   have hm : axF n1 n2 n3 3 < 3 := by have := axF_lt n1 n2 n3 3; omega
   have SD := Lib.hid (fun W => rside_any (pt n1 n2 n3 (axF n1 n2 n3 3)) W);generalize axF n1 n2 n3 3 = m at *;clear i1 i2 i3
   rcases show m = 0 ∨ m = 1 ∨ m = 2 by omega with rfl | rfl | rfl
   ·rw [show pt n1 n2 n3 0 = n1 from rfl] at SD ⊢
    generalize ordI n1 0 = s at *;clear hm
    go_enter Tryz.func26, Tryz.ntmps26
    go_upto_region 1 with fail
    have hbx := below_new1 w (.cells #[.int .i64 a1, .int .i64 a2, .int .i64 a3] 57)
    have zx : (w.alloc (.cells #[.int .i64 a1, .int .i64 a2, .int .i64 a3] 57)).heap.size = w.heap.size + 1 := by simp
    have HB := Lib.hid hbx;have kx := Lib.hid (Lok.new w 57 #[.int .i64 a1, .int .i64 a2, .int .i64 a3]);clear hbx;generalize w.alloc (.cells #[.int .i64 a1, .int .i64 a2, .int .i64 a3] 57) = Vx at *;have hby := below_new1 Vx (.cells #[.int .i64 b1, .int .i64 b2, .int .i64 b3] 57);replace kx := Lib.hid (kx.out.keep hby)
    have zy : (Vx.alloc (.cells #[.int .i64 b1, .int .i64 b2, .int .i64 b3] 57)).heap.size = Vx.heap.size + 1 := by simp
    replace HB := Lib.hid (HB.out.trans (hby.mono HB.out.size));have ky := Lib.hid (Lok.new Vx 57 #[.int .i64 b1, .int .i64 b2, .int .i64 b3]);clear hby;generalize Vx.alloc (.cells #[.int .i64 b1, .int .i64 b2, .int .i64 b3] 57) = Vy at *;rw [zx] at ky zy;have hbz := below_new1 Vy (.cells #[.int .i64 c1, .int .i64 c2, .int .i64 c3] 57);replace kx := Lib.hid (kx.out.keep hbz);replace ky := Lib.hid (ky.out.keep hbz)
    have zz : (Vy.alloc (.cells #[.int .i64 c1, .int .i64 c2, .int .i64 c3] 57)).heap.size = Vy.heap.size + 1 := by simp
    replace HB := Lib.hid (HB.out.trans (hbz.mono HB.out.size));have kz := Lib.hid (Lok.new Vy 57 #[.int .i64 c1, .int .i64 c2, .int .i64 c3]);clear hbz;generalize Vy.alloc (.cells #[.int .i64 c1, .int .i64 c2, .int .i64 c3] 57) = Vz at *;rw [zy] at kz;clear zx zy zz;have x0 := kx.out.cell (i := 0) rfl;have x1 := kx.out.cell (i := 1) rfl;have x2 := kx.out.cell (i := 2) rfl;have y0 := ky.out.cell (i := 0) rfl;have y1 := ky.out.cell (i := 1) rfl;have y2 := ky.out.cell (i := 2) rfl;have z0 := kz.out.cell (i := 0) rfl;have z1 := kz.out.cell (i := 1) rfl;have z2 := kz.out.cell (i := 2) rfl
    go_wp2_with fail
    clear x0 x1 x2 y0 y1 y2 z0 z1 z2;((with_reducible refine (Q.out _).mono ?_); rintro e wn ⟨rfl, hbn⟩);replace HB := Lib.hid (HB.out.trans (hbn.mono HB.out.size));replace kx := Lib.hid (kx.out.keep hbn);replace ky := Lib.hid (ky.out.keep hbn);replace kz := Lib.hid (kz.out.keep hbn);clear hbn
    go_upto_region 2 with fail
    have hbn := below_new1 wn (.cells #[.int .i64 n1, .int .i64 n2, .int .i64 n3] 57);replace HB := Lib.hid (HB.out.trans (hbn.mono HB.out.size));replace kx := Lib.hid (kx.out.keep hbn);replace ky := Lib.hid (ky.out.keep hbn);replace kz := Lib.hid (kz.out.keep hbn);have kn := Lib.hid (Lok.new wn 57 #[.int .i64 n1, .int .i64 n2, .int .i64 n3]);clear hbn;generalize wn.alloc (.cells #[.int .i64 n1, .int .i64 n2, .int .i64 n3] 57) = Vn at *;generalize wn.heap.size = gn at *
    go_upto_region 5 with fail
    have hbo := below_new1 Vn (.cells #[.int .i64 0, .int .i64 0, .int .i64 0] 57);replace kn := Lib.hid (kn.out.keep hbo)
    have zo : (Vn.alloc (.cells #[.int .i64 0, .int .i64 0, .int .i64 0] 57)).heap.size = Vn.heap.size + 1 := by simp
    replace HB := Lib.hid (HB.out.trans (hbo.mono HB.out.size));have ko := Lib.hid (Lok.new Vn 57 #[.int .i64 0, .int .i64 0, .int .i64 0]);clear hbo;generalize Vn.alloc (.cells #[.int .i64 0, .int .i64 0, .int .i64 0] 57) = Vo at *;clear zo;generalize Vn.heap.size = go at *;have n0 := kn.out.cell (i := 0) rfl;have n1 := kn.out.cell (i := 1) rfl;have n2 := kn.out.cell (i := 2) rfl;have o0 := ko.out.cell (i := 0) rfl;have o1 := ko.out.cell (i := 1) rfl;have o2 := ko.out.cell (i := 2) rfl
    go_wp2_with fail
    clear n0 n1 n2 o0 o1 o2
    (((with_reducible refine (A.out _).mono ?_); rintro e w2 ⟨rfl, hb2⟩); replace HB := Lib.hid (HB.out.trans (hb2.mono HB.out.size)); replace kn := Lib.hid (kn.out.keep hb2); replace ko := Lib.hid (ko.out.keep hb2); clear hb2)
    have n0 := kn.out.cell (i := 0) rfl;have n1 := kn.out.cell (i := 1) rfl;have n2 := kn.out.cell (i := 2) rfl
    go_upto_region 9 with fail
    clear n0 n1 n2;have hbv := below_new1 w2 (.cells #[.int .i64 n1, .int .i64 n2, .int .i64 n3] 3);replace kn := Lib.hid (kn.out.keep hbv)
    have zv : (w2.alloc (.cells #[.int .i64 n1, .int .i64 n2, .int .i64 n3] 3)).heap.size = w2.heap.size + 1 := by simp
    replace HB := Lib.hid (HB.out.trans (hbv.mono HB.out.size));have kv := Lib.hid (Lok.new w2 3 #[.int .i64 n1, .int .i64 n2, .int .i64 n3]);clear hbv;generalize w2.alloc (.cells #[.int .i64 n1, .int .i64 n2, .int .i64 n3] 3) = Vv at *;clear zv;generalize w2.heap.size = gv at *;have v0 := kv.out.cell (i := 0) rfl;have v1 := kv.out.cell (i := 1) rfl;have v2 := kv.out.cell (i := 2) rfl
    go_wp2_with fail
    (((with_reducible refine (SD.out _).mono ?_); rintro e w4 ⟨rfl, hb4⟩); replace HB := Lib.hid (HB.out.trans (hb4.mono HB.out.size)); clear hb4)
    go_wp2
    go_ret3
    exact ⟨rfl, HB.out⟩
   ·rw [show pt n1 n2 n3 1 = n2 from rfl] at SD ⊢
    generalize ordI n2 0 = s at *;clear hm
    go_enter Tryz.func26, Tryz.ntmps26
    go_upto_region 1 with fail
    have hbx := below_new1 w (.cells #[.int .i64 a1, .int .i64 a2, .int .i64 a3] 57)
    have zx : (w.alloc (.cells #[.int .i64 a1, .int .i64 a2, .int .i64 a3] 57)).heap.size = w.heap.size + 1 := by simp
    have HB := Lib.hid hbx;have kx := Lib.hid (Lok.new w 57 #[.int .i64 a1, .int .i64 a2, .int .i64 a3]);clear hbx;generalize w.alloc (.cells #[.int .i64 a1, .int .i64 a2, .int .i64 a3] 57) = Vx at *;have hby := below_new1 Vx (.cells #[.int .i64 b1, .int .i64 b2, .int .i64 b3] 57);replace kx := Lib.hid (kx.out.keep hby)
    have zy : (Vx.alloc (.cells #[.int .i64 b1, .int .i64 b2, .int .i64 b3] 57)).heap.size = Vx.heap.size + 1 := by simp
    replace HB := Lib.hid (HB.out.trans (hby.mono HB.out.size));have ky := Lib.hid (Lok.new Vx 57 #[.int .i64 b1, .int .i64 b2, .int .i64 b3]);clear hby;generalize Vx.alloc (.cells #[.int .i64 b1, .int .i64 b2, .int .i64 b3] 57) = Vy at *;rw [zx] at ky zy;have hbz := below_new1 Vy (.cells #[.int .i64 c1, .int .i64 c2, .int .i64 c3] 57);replace kx := Lib.hid (kx.out.keep hbz);replace ky := Lib.hid (ky.out.keep hbz)
    have zz : (Vy.alloc (.cells #[.int .i64 c1, .int .i64 c2, .int .i64 c3] 57)).heap.size = Vy.heap.size + 1 := by simp
    replace HB := Lib.hid (HB.out.trans (hbz.mono HB.out.size));have kz := Lib.hid (Lok.new Vy 57 #[.int .i64 c1, .int .i64 c2, .int .i64 c3]);clear hbz;generalize Vy.alloc (.cells #[.int .i64 c1, .int .i64 c2, .int .i64 c3] 57) = Vz at *;rw [zy] at kz;clear zx zy zz;have x0 := kx.out.cell (i := 0) rfl;have x1 := kx.out.cell (i := 1) rfl;have x2 := kx.out.cell (i := 2) rfl;have y0 := ky.out.cell (i := 0) rfl;have y1 := ky.out.cell (i := 1) rfl;have y2 := ky.out.cell (i := 2) rfl;have z0 := kz.out.cell (i := 0) rfl;have z1 := kz.out.cell (i := 1) rfl;have z2 := kz.out.cell (i := 2) rfl
    go_wp2_with fail
    clear x0 x1 x2 y0 y1 y2 z0 z1 z2;((with_reducible refine (Q.out _).mono ?_); rintro e wn ⟨rfl, hbn⟩);replace HB := Lib.hid (HB.out.trans (hbn.mono HB.out.size));replace kx := Lib.hid (kx.out.keep hbn);replace ky := Lib.hid (ky.out.keep hbn);replace kz := Lib.hid (kz.out.keep hbn);clear hbn
    go_upto_region 2 with fail
    have hbn := below_new1 wn (.cells #[.int .i64 n1, .int .i64 n2, .int .i64 n3] 57);replace HB := Lib.hid (HB.out.trans (hbn.mono HB.out.size));replace kx := Lib.hid (kx.out.keep hbn);replace ky := Lib.hid (ky.out.keep hbn);replace kz := Lib.hid (kz.out.keep hbn);have kn := Lib.hid (Lok.new wn 57 #[.int .i64 n1, .int .i64 n2, .int .i64 n3]);clear hbn;generalize wn.alloc (.cells #[.int .i64 n1, .int .i64 n2, .int .i64 n3] 57) = Vn at *;generalize wn.heap.size = gn at *
    go_upto_region 5 with fail
    have hbo := below_new1 Vn (.cells #[.int .i64 0, .int .i64 0, .int .i64 0] 57);replace kn := Lib.hid (kn.out.keep hbo)
    have zo : (Vn.alloc (.cells #[.int .i64 0, .int .i64 0, .int .i64 0] 57)).heap.size = Vn.heap.size + 1 := by simp
    replace HB := Lib.hid (HB.out.trans (hbo.mono HB.out.size));have ko := Lib.hid (Lok.new Vn 57 #[.int .i64 0, .int .i64 0, .int .i64 0]);clear hbo;generalize Vn.alloc (.cells #[.int .i64 0, .int .i64 0, .int .i64 0] 57) = Vo at *;clear zo;generalize Vn.heap.size = go at *;have n0 := kn.out.cell (i := 0) rfl;have n1 := kn.out.cell (i := 1) rfl;have n2 := kn.out.cell (i := 2) rfl;have o0 := ko.out.cell (i := 0) rfl;have o1 := ko.out.cell (i := 1) rfl;have o2 := ko.out.cell (i := 2) rfl
    go_wp2_with fail
    clear n0 n1 n2 o0 o1 o2
    (((with_reducible refine (A.out _).mono ?_); rintro e w2 ⟨rfl, hb2⟩); replace HB := Lib.hid (HB.out.trans (hb2.mono HB.out.size)); replace kn := Lib.hid (kn.out.keep hb2); replace ko := Lib.hid (ko.out.keep hb2); clear hb2)
    have n0 := kn.out.cell (i := 0) rfl;have n1 := kn.out.cell (i := 1) rfl;have n2 := kn.out.cell (i := 2) rfl
    go_upto_region 9 with fail
    clear n0 n1 n2;have hbv := below_new1 w2 (.cells #[.int .i64 n1, .int .i64 n2, .int .i64 n3] 3);replace kn := Lib.hid (kn.out.keep hbv)
    have zv : (w2.alloc (.cells #[.int .i64 n1, .int .i64 n2, .int .i64 n3] 3)).heap.size = w2.heap.size + 1 := by simp
    replace HB := Lib.hid (HB.out.trans (hbv.mono HB.out.size));have kv := Lib.hid (Lok.new w2 3 #[.int .i64 n1, .int .i64 n2, .int .i64 n3]);clear hbv;generalize w2.alloc (.cells #[.int .i64 n1, .int .i64 n2, .int .i64 n3] 3) = Vv at *;clear zv;generalize w2.heap.size = gv at *;have v0 := kv.out.cell (i := 0) rfl;have v1 := kv.out.cell (i := 1) rfl;have v2 := kv.out.cell (i := 2) rfl
    go_wp2_with fail
    (((with_reducible refine (SD.out _).mono ?_); rintro e w4 ⟨rfl, hb4⟩); replace HB := Lib.hid (HB.out.trans (hb4.mono HB.out.size)); clear hb4)
    go_wp2
    go_ret3
    exact ⟨rfl, HB.out⟩
   ·rw [show pt n1 n2 n3 2 = n3 from rfl] at SD ⊢
    generalize ordI n3 0 = s at *;clear hm
    go_enter Tryz.func26, Tryz.ntmps26
    go_upto_region 1 with fail
    have hbx := below_new1 w (.cells #[.int .i64 a1, .int .i64 a2, .int .i64 a3] 57)
    have zx : (w.alloc (.cells #[.int .i64 a1, .int .i64 a2, .int .i64 a3] 57)).heap.size = w.heap.size + 1 := by simp
    have HB := Lib.hid hbx;have kx := Lib.hid (Lok.new w 57 #[.int .i64 a1, .int .i64 a2, .int .i64 a3]);clear hbx;generalize w.alloc (.cells #[.int .i64 a1, .int .i64 a2, .int .i64 a3] 57) = Vx at *;have hby := below_new1 Vx (.cells #[.int .i64 b1, .int .i64 b2, .int .i64 b3] 57);replace kx := Lib.hid (kx.out.keep hby)
    have zy : (Vx.alloc (.cells #[.int .i64 b1, .int .i64 b2, .int .i64 b3] 57)).heap.size = Vx.heap.size + 1 := by simp
    replace HB := Lib.hid (HB.out.trans (hby.mono HB.out.size));have ky := Lib.hid (Lok.new Vx 57 #[.int .i64 b1, .int .i64 b2, .int .i64 b3]);clear hby;generalize Vx.alloc (.cells #[.int .i64 b1, .int .i64 b2, .int .i64 b3] 57) = Vy at *;rw [zx] at ky zy;have hbz := below_new1 Vy (.cells #[.int .i64 c1, .int .i64 c2, .int .i64 c3] 57);replace kx := Lib.hid (kx.out.keep hbz);replace ky := Lib.hid (ky.out.keep hbz)
    have zz : (Vy.alloc (.cells #[.int .i64 c1, .int .i64 c2, .int .i64 c3] 57)).heap.size = Vy.heap.size + 1 := by simp
    replace HB := Lib.hid (HB.out.trans (hbz.mono HB.out.size));have kz := Lib.hid (Lok.new Vy 57 #[.int .i64 c1, .int .i64 c2, .int .i64 c3]);clear hbz;generalize Vy.alloc (.cells #[.int .i64 c1, .int .i64 c2, .int .i64 c3] 57) = Vz at *;rw [zy] at kz;clear zx zy zz;have x0 := kx.out.cell (i := 0) rfl;have x1 := kx.out.cell (i := 1) rfl;have x2 := kx.out.cell (i := 2) rfl;have y0 := ky.out.cell (i := 0) rfl;have y1 := ky.out.cell (i := 1) rfl;have y2 := ky.out.cell (i := 2) rfl;have z0 := kz.out.cell (i := 0) rfl;have z1 := kz.out.cell (i := 1) rfl;have z2 := kz.out.cell (i := 2) rfl
    go_wp2_with fail
    clear x0 x1 x2 y0 y1 y2 z0 z1 z2;((with_reducible refine (Q.out _).mono ?_); rintro e wn ⟨rfl, hbn⟩);replace HB := Lib.hid (HB.out.trans (hbn.mono HB.out.size));replace kx := Lib.hid (kx.out.keep hbn);replace ky := Lib.hid (ky.out.keep hbn);replace kz := Lib.hid (kz.out.keep hbn);clear hbn
    go_upto_region 2 with fail
    have hbn := below_new1 wn (.cells #[.int .i64 n1, .int .i64 n2, .int .i64 n3] 57);replace HB := Lib.hid (HB.out.trans (hbn.mono HB.out.size));replace kx := Lib.hid (kx.out.keep hbn);replace ky := Lib.hid (ky.out.keep hbn);replace kz := Lib.hid (kz.out.keep hbn);have kn := Lib.hid (Lok.new wn 57 #[.int .i64 n1, .int .i64 n2, .int .i64 n3]);clear hbn;generalize wn.alloc (.cells #[.int .i64 n1, .int .i64 n2, .int .i64 n3] 57) = Vn at *;generalize wn.heap.size = gn at *
    go_upto_region 5 with fail
    have hbo := below_new1 Vn (.cells #[.int .i64 0, .int .i64 0, .int .i64 0] 57);replace kn := Lib.hid (kn.out.keep hbo)
    have zo : (Vn.alloc (.cells #[.int .i64 0, .int .i64 0, .int .i64 0] 57)).heap.size = Vn.heap.size + 1 := by simp
    replace HB := Lib.hid (HB.out.trans (hbo.mono HB.out.size));have ko := Lib.hid (Lok.new Vn 57 #[.int .i64 0, .int .i64 0, .int .i64 0]);clear hbo;generalize Vn.alloc (.cells #[.int .i64 0, .int .i64 0, .int .i64 0] 57) = Vo at *;clear zo;generalize Vn.heap.size = go at *;have n0 := kn.out.cell (i := 0) rfl;have n1 := kn.out.cell (i := 1) rfl;have n2 := kn.out.cell (i := 2) rfl;have o0 := ko.out.cell (i := 0) rfl;have o1 := ko.out.cell (i := 1) rfl;have o2 := ko.out.cell (i := 2) rfl
    go_wp2_with fail
    clear n0 n1 n2 o0 o1 o2
    (((with_reducible refine (A.out _).mono ?_); rintro e w2 ⟨rfl, hb2⟩); replace HB := Lib.hid (HB.out.trans (hb2.mono HB.out.size)); replace kn := Lib.hid (kn.out.keep hb2); replace ko := Lib.hid (ko.out.keep hb2); clear hb2)
    have n0 := kn.out.cell (i := 0) rfl;have n1 := kn.out.cell (i := 1) rfl;have n2 := kn.out.cell (i := 2) rfl
    go_upto_region 9 with fail
    clear n0 n1 n2;have hbv := below_new1 w2 (.cells #[.int .i64 n1, .int .i64 n2, .int .i64 n3] 3);replace kn := Lib.hid (kn.out.keep hbv)
    have zv : (w2.alloc (.cells #[.int .i64 n1, .int .i64 n2, .int .i64 n3] 3)).heap.size = w2.heap.size + 1 := by simp
    replace HB := Lib.hid (HB.out.trans (hbv.mono HB.out.size));have kv := Lib.hid (Lok.new w2 3 #[.int .i64 n1, .int .i64 n2, .int .i64 n3]);clear hbv;generalize w2.alloc (.cells #[.int .i64 n1, .int .i64 n2, .int .i64 n3] 3) = Vv at *;clear zv;generalize w2.heap.size = gv at *;have v0 := kv.out.cell (i := 0) rfl;have v1 := kv.out.cell (i := 1) rfl;have v2 := kv.out.cell (i := 2) rfl
    go_wp2_with fail
    (((with_reducible refine (SD.out _).mono ?_); rintro e w4 ⟨rfl, hb4⟩); replace HB := Lib.hid (HB.out.trans (hb4.mono HB.out.size)); clear hb4)
    go_wp2
    go_ret3
    exact ⟨rfl, HB.out⟩
end Go.Proofs.YtcnbbanpnoigdaaGreat
namespace Go.Proofs.YtcnbbanpnoigdaaGreat
open Go.RowKit

def lx3 (a b c d e f : Int) : Int := or3 (ordI a d) (ordI b e) (ordI c f)
def oA (a b c d e f : Int) (k : Nat) : Int := ordI (pt a b c k) (pt d e f k)
def ls3 (a b c d e f : Int) : Bool := decide (a < d ∨ (a = d ∧ (b < e ∨ (b = e ∧ c < f))))

end Go.Proofs.YtcnbbanpnoigdaaGreat
namespace Go.Proofs.YtcnbbanpnoigdaaGreat
open Go.RowKit

set_option maxRecDepth 100000 in
set_option maxHeartbeats 1000000 in
theorem rdrop_any (x y z k : Int) (w : World) :
  Calls Tryz.prog 28 #[.agg #[.int .i64 x, .int .i64 y, .int .i64 z], .int .i64 k] w fun e w' => e = .returned (.tuple #[.agg #[.int .i64 (dpX x y z k), .int .i64 (dpY x y z k)], .int .i64 (dpE k)]) ∧ Below w.heap.size w w' := by
 have HB := Lib.hid (Below.refl w.heap.size w)
 have W4 : k = 0 ∨ k = 1 ∨ k = 2 ∨ (k ≠ 0 ∧ k ≠ 1 ∧ k ≠ 2) := by omega
 rcases W4 with rfl | rfl | rfl | ⟨h0, h1, h2⟩
 ·show Calls _ _ _ _ fun e w' => e = .returned (.tuple #[.agg #[.int .i64 y, .int .i64 z], .int .i64 0]) ∧ _
  go_enter Tryz.func28, Tryz.ntmps28
  go_upto_region 1 with fail
  have hbx := below_new1 w (.cells #[.int .i64 x, .int .i64 y, .int .i64 z] 57)
  have zx : (w.alloc (.cells #[.int .i64 x, .int .i64 y, .int .i64 z] 57)).heap.size = w.heap.size + 1 := by simp
  have HB := Lib.hid hbx;have kx := Lib.hid (Lok.new w 57 #[.int .i64 x, .int .i64 y, .int .i64 z]);clear hbx;generalize w.alloc (.cells #[.int .i64 x, .int .i64 y, .int .i64 z] 57) = Vx at *;have hby := below_new1 Vx (.cells #[.int .i64 0, .int .i64 0] 36);replace kx := Lib.hid (kx.out.keep hby)
  have zy : (Vx.alloc (.cells #[.int .i64 0, .int .i64 0] 36)).heap.size = Vx.heap.size + 1 := by simp
  replace HB := Lib.hid (HB.out.trans (hby.mono HB.out.size));have ky := Lib.hid (Lok.new Vx 36 #[.int .i64 0, .int .i64 0]);clear hby;generalize Vx.alloc (.cells #[.int .i64 0, .int .i64 0] 36) = Vy at *;rw [zx] at ky;clear zx zy;have x0 := kx.out.cell (i := 0) rfl;have x1 := kx.out.cell (i := 1) rfl;have x2 := kx.out.cell (i := 2) rfl;have y0 := ky.out.cell (i := 0) rfl;have y1 := ky.out.cell (i := 1) rfl;have f0 := ky.out.frozen 0;have f1 := ky.out.frozen 1
  go_wp2_with fail
  exact bodyPost_ret (v := .tuple #[.agg #[.int .i64 y, .int .i64 z], .int .i64 0]) (by simp [results, Tryz.results28, go_sem, y0, y1]) rfl ⟨rfl, (HB.out.setCell (by simp <;> omega) _).setCell (by simp <;> omega) _⟩
 ·show Calls _ _ _ _ fun e w' => e = .returned (.tuple #[.agg #[.int .i64 z, .int .i64 x], .int .i64 0]) ∧ _
  go_enter Tryz.func28, Tryz.ntmps28
  go_upto_region 1 with fail
  have hbx := below_new1 w (.cells #[.int .i64 x, .int .i64 y, .int .i64 z] 57)
  have zx : (w.alloc (.cells #[.int .i64 x, .int .i64 y, .int .i64 z] 57)).heap.size = w.heap.size + 1 := by simp
  have HB := Lib.hid hbx;have kx := Lib.hid (Lok.new w 57 #[.int .i64 x, .int .i64 y, .int .i64 z]);clear hbx;generalize w.alloc (.cells #[.int .i64 x, .int .i64 y, .int .i64 z] 57) = Vx at *;have hby := below_new1 Vx (.cells #[.int .i64 0, .int .i64 0] 36);replace kx := Lib.hid (kx.out.keep hby)
  have zy : (Vx.alloc (.cells #[.int .i64 0, .int .i64 0] 36)).heap.size = Vx.heap.size + 1 := by simp
  replace HB := Lib.hid (HB.out.trans (hby.mono HB.out.size));have ky := Lib.hid (Lok.new Vx 36 #[.int .i64 0, .int .i64 0]);clear hby;generalize Vx.alloc (.cells #[.int .i64 0, .int .i64 0] 36) = Vy at *;rw [zx] at ky;clear zx zy;have x0 := kx.out.cell (i := 0) rfl;have x1 := kx.out.cell (i := 1) rfl;have x2 := kx.out.cell (i := 2) rfl;have y0 := ky.out.cell (i := 0) rfl;have y1 := ky.out.cell (i := 1) rfl;have f0 := ky.out.frozen 0;have f1 := ky.out.frozen 1
  go_wp2_with fail
  exact bodyPost_ret (v := .tuple #[.agg #[.int .i64 z, .int .i64 x], .int .i64 0]) (by simp [results, Tryz.results28, go_sem, y0, y1]) rfl ⟨rfl, (HB.out.setCell (by simp <;> omega) _).setCell (by simp <;> omega) _⟩
 ·show Calls _ _ _ _ fun e w' => e = .returned (.tuple #[.agg #[.int .i64 x, .int .i64 y], .int .i64 0]) ∧ _
  go_enter Tryz.func28, Tryz.ntmps28
  go_upto_region 1 with fail
  have hbx := below_new1 w (.cells #[.int .i64 x, .int .i64 y, .int .i64 z] 57)
  have zx : (w.alloc (.cells #[.int .i64 x, .int .i64 y, .int .i64 z] 57)).heap.size = w.heap.size + 1 := by simp
  have HB := Lib.hid hbx;have kx := Lib.hid (Lok.new w 57 #[.int .i64 x, .int .i64 y, .int .i64 z]);clear hbx;generalize w.alloc (.cells #[.int .i64 x, .int .i64 y, .int .i64 z] 57) = Vx at *;have hby := below_new1 Vx (.cells #[.int .i64 0, .int .i64 0] 36);replace kx := Lib.hid (kx.out.keep hby)
  have zy : (Vx.alloc (.cells #[.int .i64 0, .int .i64 0] 36)).heap.size = Vx.heap.size + 1 := by simp
  replace HB := Lib.hid (HB.out.trans (hby.mono HB.out.size));have ky := Lib.hid (Lok.new Vx 36 #[.int .i64 0, .int .i64 0]);clear hby;generalize Vx.alloc (.cells #[.int .i64 0, .int .i64 0] 36) = Vy at *;rw [zx] at ky;clear zx zy;have x0 := kx.out.cell (i := 0) rfl;have x1 := kx.out.cell (i := 1) rfl;have x2 := kx.out.cell (i := 2) rfl;have y0 := ky.out.cell (i := 0) rfl;have y1 := ky.out.cell (i := 1) rfl;have f0 := ky.out.frozen 0;have f1 := ky.out.frozen 1
  go_wp2_with fail
  exact bodyPost_ret (v := .tuple #[.agg #[.int .i64 x, .int .i64 y], .int .i64 0]) (by simp [results, Tryz.results28, go_sem, y0, y1]) rfl ⟨rfl, (HB.out.setCell (by simp <;> omega) _).setCell (by simp <;> omega) _⟩
 ·have n : ¬ axB k := by unfold axB; omega
  rw [show dpX x y z k = 0 from if_neg n, show dpY x y z k = 0 from if_neg n, show dpE k = 1 from if_neg n]
  have e0 : (k == 0) = false := by rw [beq_eq_false_iff_ne]; exact h0
  have e1 : (k == 1) = false := by rw [beq_eq_false_iff_ne]; exact h1
  have e2 : (k == 2) = false := by rw [beq_eq_false_iff_ne]; exact h2
  clear n
  go_enter Tryz.func28, Tryz.ntmps28
  go_upto_region 1 with fail
  have hbx := below_new1 w (.cells #[.int .i64 x, .int .i64 y, .int .i64 z] 57)
  have zx : (w.alloc (.cells #[.int .i64 x, .int .i64 y, .int .i64 z] 57)).heap.size = w.heap.size + 1 := by simp
  have HB := Lib.hid hbx;have kx := Lib.hid (Lok.new w 57 #[.int .i64 x, .int .i64 y, .int .i64 z]);clear hbx;generalize w.alloc (.cells #[.int .i64 x, .int .i64 y, .int .i64 z] 57) = Vx at *;have hby := below_new1 Vx (.cells #[.int .i64 0, .int .i64 0] 36);replace kx := Lib.hid (kx.out.keep hby)
  have zy : (Vx.alloc (.cells #[.int .i64 0, .int .i64 0] 36)).heap.size = Vx.heap.size + 1 := by simp
  replace HB := Lib.hid (HB.out.trans (hby.mono HB.out.size));have ky := Lib.hid (Lok.new Vx 36 #[.int .i64 0, .int .i64 0]);clear hby;generalize Vx.alloc (.cells #[.int .i64 0, .int .i64 0] 36) = Vy at *;rw [zx] at ky;clear zx zy;have x0 := kx.out.cell (i := 0) rfl;have x1 := kx.out.cell (i := 1) rfl;have x2 := kx.out.cell (i := 2) rfl;have y0 := ky.out.cell (i := 0) rfl;have y1 := ky.out.cell (i := 1) rfl;have f0 := ky.out.frozen 0;have f1 := ky.out.frozen 1
  go_wp2_with fail
  exact bodyPost_ret (v := .tuple #[.agg #[.int .i64 0, .int .i64 0], .int .i64 1]) (by simp [results, Tryz.results28, go_sem, y0, y1]) rfl ⟨rfl, (HB.out.setCell (by simp <;> omega) _).setCell (by simp <;> omega) _⟩

end Go.Proofs.YtcnbbanpnoigdaaGreat
