/-
  The reference limewashref09: Small2, Small3, All2, All3, side, Area, Side. (gen/SgR.py)
-/
import Derived.Test.YtllamakemgogaaaSgB
import Derived.Test.YtllamakemgogaaaSgC
namespace Go.Proofs.Ytllamakemgogaaa
open Go.RowKit

set_option maxRecDepth 100000 in
set_option maxHeartbeats 1000000 in
theorem rsmall2_any (x y : Int) (w : World) :
    Calls Try.prog 23 #[.agg #[.int .i64 x, .int .i64 y]] w fun e' w' => e' = .returned (.bool (s2 x y)) ∧ Below w.heap.size w w' := by
  have HB := Lib.hid (Below.refl w.heap.size w)
  by_cases h0 : -4096 ≤ x
  · by_cases h1 : x ≤ 4096
    · by_cases h2 : -4096 ≤ y
      · by_cases h3 : y ≤ 4096
        · rw [show s2 x y = true from s2_iff.2 ⟨⟨h0, h1⟩, ⟨h2, h3⟩⟩]
          go_enter Try.func23, Try.ntmps23
          go_upto_region 1 with fail
          have hbp := below_new1 w (.cells #[.int .i64 x, .int .i64 y] 23)
          have zp : (w.alloc (.cells #[.int .i64 x, .int .i64 y] 23)).heap.size = w.heap.size + 1 := by simp
          have HB := Lib.hid hbp
          have kp := Lib.hid (Lok.new w 23 #[.int .i64 x, .int .i64 y])
          clear hbp
          generalize w.alloc (.cells #[.int .i64 x, .int .i64 y] 23) = Vp at *
          clear zp
          have p0 := kp.out.cell (i := 0) rfl
          have p1 := kp.out.cell (i := 1) rfl
          go_wp2
          go_ret
          exact ⟨rfl, HB.out⟩
        · rw [show s2 x y = false from by cases e : s2 x y with | false => rfl | true => exact absurd (s2_iff.1 e) (fun h => h3 (h.2.2))]
          have d3 : decide (y ≤ 4096) = false := decide_eq_false h3
          go_enter Try.func23, Try.ntmps23
          go_upto_region 1 with fail
          have hbp := below_new1 w (.cells #[.int .i64 x, .int .i64 y] 23)
          have zp : (w.alloc (.cells #[.int .i64 x, .int .i64 y] 23)).heap.size = w.heap.size + 1 := by simp
          have HB := Lib.hid hbp
          have kp := Lib.hid (Lok.new w 23 #[.int .i64 x, .int .i64 y])
          clear hbp
          generalize w.alloc (.cells #[.int .i64 x, .int .i64 y] 23) = Vp at *
          clear zp
          have p0 := kp.out.cell (i := 0) rfl
          have p1 := kp.out.cell (i := 1) rfl
          go_wp2
          go_ret
          exact ⟨rfl, HB.out⟩
      · rw [show s2 x y = false from by cases e : s2 x y with | false => rfl | true => exact absurd (s2_iff.1 e) (fun h => h2 (h.2.1))]
        have d2 : decide (-4096 ≤ y) = false := decide_eq_false h2
        go_enter Try.func23, Try.ntmps23
        go_upto_region 1 with fail
        have hbp := below_new1 w (.cells #[.int .i64 x, .int .i64 y] 23)
        have zp : (w.alloc (.cells #[.int .i64 x, .int .i64 y] 23)).heap.size = w.heap.size + 1 := by simp
        have HB := Lib.hid hbp
        have kp := Lib.hid (Lok.new w 23 #[.int .i64 x, .int .i64 y])
        clear hbp
        generalize w.alloc (.cells #[.int .i64 x, .int .i64 y] 23) = Vp at *
        clear zp
        have p0 := kp.out.cell (i := 0) rfl
        have p1 := kp.out.cell (i := 1) rfl
        go_wp2
        go_ret
        exact ⟨rfl, HB.out⟩
    · rw [show s2 x y = false from by cases e : s2 x y with | false => rfl | true => exact absurd (s2_iff.1 e) (fun h => h1 (h.1.2))]
      have d1 : decide (x ≤ 4096) = false := decide_eq_false h1
      go_enter Try.func23, Try.ntmps23
      go_upto_region 1 with fail
      have hbp := below_new1 w (.cells #[.int .i64 x, .int .i64 y] 23)
      have zp : (w.alloc (.cells #[.int .i64 x, .int .i64 y] 23)).heap.size = w.heap.size + 1 := by simp
      have HB := Lib.hid hbp
      have kp := Lib.hid (Lok.new w 23 #[.int .i64 x, .int .i64 y])
      clear hbp
      generalize w.alloc (.cells #[.int .i64 x, .int .i64 y] 23) = Vp at *
      clear zp
      have p0 := kp.out.cell (i := 0) rfl
      have p1 := kp.out.cell (i := 1) rfl
      go_wp2
      go_ret
      exact ⟨rfl, HB.out⟩
  · rw [show s2 x y = false from by cases e : s2 x y with | false => rfl | true => exact absurd (s2_iff.1 e) (fun h => h0 (h.1.1))]
    have d0 : decide (-4096 ≤ x) = false := decide_eq_false h0
    go_enter Try.func23, Try.ntmps23
    go_upto_region 1 with fail
    have hbp := below_new1 w (.cells #[.int .i64 x, .int .i64 y] 23)
    have zp : (w.alloc (.cells #[.int .i64 x, .int .i64 y] 23)).heap.size = w.heap.size + 1 := by simp
    have HB := Lib.hid hbp
    have kp := Lib.hid (Lok.new w 23 #[.int .i64 x, .int .i64 y])
    clear hbp
    generalize w.alloc (.cells #[.int .i64 x, .int .i64 y] 23) = Vp at *
    clear zp
    have p0 := kp.out.cell (i := 0) rfl
    have p1 := kp.out.cell (i := 1) rfl
    go_wp2
    go_ret
    exact ⟨rfl, HB.out⟩
set_option maxRecDepth 100000 in
set_option maxHeartbeats 1000000 in
theorem rsmall3_any (x y z : Int) (w : World) :
    Calls Try.prog 35 #[.agg #[.int .i64 x, .int .i64 y, .int .i64 z]] w fun e' w' => e' = .returned (.bool (s3 x y z)) ∧ Below w.heap.size w w' := by
  have HB := Lib.hid (Below.refl w.heap.size w)
  by_cases h0 : -16384 ≤ x
  · by_cases h1 : x ≤ 16384
    · by_cases h2 : -16384 ≤ y
      · by_cases h3 : y ≤ 16384
        · by_cases h4 : -16384 ≤ z
          · by_cases h5 : z ≤ 16384
            · rw [show s3 x y z = true from s3_iff.2 ⟨⟨h0, h1⟩, ⟨h2, h3⟩, ⟨h4, h5⟩⟩]
              go_enter Try.func35, Try.ntmps35
              go_upto_region 1 with fail
              have hbp := below_new1 w (.cells #[.int .i64 x, .int .i64 y, .int .i64 z] 26)
              have zp : (w.alloc (.cells #[.int .i64 x, .int .i64 y, .int .i64 z] 26)).heap.size = w.heap.size + 1 := by simp
              have HB := Lib.hid hbp
              have kp := Lib.hid (Lok.new w 26 #[.int .i64 x, .int .i64 y, .int .i64 z])
              clear hbp
              generalize w.alloc (.cells #[.int .i64 x, .int .i64 y, .int .i64 z] 26) = Vp at *
              clear zp
              have p0 := kp.out.cell (i := 0) rfl
              have p1 := kp.out.cell (i := 1) rfl
              have p2 := kp.out.cell (i := 2) rfl
              go_wp2
              go_ret
              exact ⟨rfl, HB.out⟩
            · rw [show s3 x y z = false from by cases e : s3 x y z with | false => rfl | true => exact absurd (s3_iff.1 e) (fun h => h5 (h.2.2.2))]
              have d5 : decide (z ≤ 16384) = false := decide_eq_false h5
              go_enter Try.func35, Try.ntmps35
              go_upto_region 1 with fail
              have hbp := below_new1 w (.cells #[.int .i64 x, .int .i64 y, .int .i64 z] 26)
              have zp : (w.alloc (.cells #[.int .i64 x, .int .i64 y, .int .i64 z] 26)).heap.size = w.heap.size + 1 := by simp
              have HB := Lib.hid hbp
              have kp := Lib.hid (Lok.new w 26 #[.int .i64 x, .int .i64 y, .int .i64 z])
              clear hbp
              generalize w.alloc (.cells #[.int .i64 x, .int .i64 y, .int .i64 z] 26) = Vp at *
              clear zp
              have p0 := kp.out.cell (i := 0) rfl
              have p1 := kp.out.cell (i := 1) rfl
              have p2 := kp.out.cell (i := 2) rfl
              go_wp2
              go_ret
              exact ⟨rfl, HB.out⟩
          · rw [show s3 x y z = false from by cases e : s3 x y z with | false => rfl | true => exact absurd (s3_iff.1 e) (fun h => h4 (h.2.2.1))]
            have d4 : decide (-16384 ≤ z) = false := decide_eq_false h4
            go_enter Try.func35, Try.ntmps35
            go_upto_region 1 with fail
            have hbp := below_new1 w (.cells #[.int .i64 x, .int .i64 y, .int .i64 z] 26)
            have zp : (w.alloc (.cells #[.int .i64 x, .int .i64 y, .int .i64 z] 26)).heap.size = w.heap.size + 1 := by simp
            have HB := Lib.hid hbp
            have kp := Lib.hid (Lok.new w 26 #[.int .i64 x, .int .i64 y, .int .i64 z])
            clear hbp
            generalize w.alloc (.cells #[.int .i64 x, .int .i64 y, .int .i64 z] 26) = Vp at *
            clear zp
            have p0 := kp.out.cell (i := 0) rfl
            have p1 := kp.out.cell (i := 1) rfl
            have p2 := kp.out.cell (i := 2) rfl
            go_wp2
            go_ret
            exact ⟨rfl, HB.out⟩
        · rw [show s3 x y z = false from by cases e : s3 x y z with | false => rfl | true => exact absurd (s3_iff.1 e) (fun h => h3 (h.2.1.2))]
          have d3 : decide (y ≤ 16384) = false := decide_eq_false h3
          go_enter Try.func35, Try.ntmps35
          go_upto_region 1 with fail
          have hbp := below_new1 w (.cells #[.int .i64 x, .int .i64 y, .int .i64 z] 26)
          have zp : (w.alloc (.cells #[.int .i64 x, .int .i64 y, .int .i64 z] 26)).heap.size = w.heap.size + 1 := by simp
          have HB := Lib.hid hbp
          have kp := Lib.hid (Lok.new w 26 #[.int .i64 x, .int .i64 y, .int .i64 z])
          clear hbp
          generalize w.alloc (.cells #[.int .i64 x, .int .i64 y, .int .i64 z] 26) = Vp at *
          clear zp
          have p0 := kp.out.cell (i := 0) rfl
          have p1 := kp.out.cell (i := 1) rfl
          have p2 := kp.out.cell (i := 2) rfl
          go_wp2
          go_ret
          exact ⟨rfl, HB.out⟩
      · rw [show s3 x y z = false from by cases e : s3 x y z with | false => rfl | true => exact absurd (s3_iff.1 e) (fun h => h2 (h.2.1.1))]
        have d2 : decide (-16384 ≤ y) = false := decide_eq_false h2
        go_enter Try.func35, Try.ntmps35
        go_upto_region 1 with fail
        have hbp := below_new1 w (.cells #[.int .i64 x, .int .i64 y, .int .i64 z] 26)
        have zp : (w.alloc (.cells #[.int .i64 x, .int .i64 y, .int .i64 z] 26)).heap.size = w.heap.size + 1 := by simp
        have HB := Lib.hid hbp
        have kp := Lib.hid (Lok.new w 26 #[.int .i64 x, .int .i64 y, .int .i64 z])
        clear hbp
        generalize w.alloc (.cells #[.int .i64 x, .int .i64 y, .int .i64 z] 26) = Vp at *
        clear zp
        have p0 := kp.out.cell (i := 0) rfl
        have p1 := kp.out.cell (i := 1) rfl
        have p2 := kp.out.cell (i := 2) rfl
        go_wp2
        go_ret
        exact ⟨rfl, HB.out⟩
    · rw [show s3 x y z = false from by cases e : s3 x y z with | false => rfl | true => exact absurd (s3_iff.1 e) (fun h => h1 (h.1.2))]
      have d1 : decide (x ≤ 16384) = false := decide_eq_false h1
      go_enter Try.func35, Try.ntmps35
      go_upto_region 1 with fail
      have hbp := below_new1 w (.cells #[.int .i64 x, .int .i64 y, .int .i64 z] 26)
      have zp : (w.alloc (.cells #[.int .i64 x, .int .i64 y, .int .i64 z] 26)).heap.size = w.heap.size + 1 := by simp
      have HB := Lib.hid hbp
      have kp := Lib.hid (Lok.new w 26 #[.int .i64 x, .int .i64 y, .int .i64 z])
      clear hbp
      generalize w.alloc (.cells #[.int .i64 x, .int .i64 y, .int .i64 z] 26) = Vp at *
      clear zp
      have p0 := kp.out.cell (i := 0) rfl
      have p1 := kp.out.cell (i := 1) rfl
      have p2 := kp.out.cell (i := 2) rfl
      go_wp2
      go_ret
      exact ⟨rfl, HB.out⟩
  · rw [show s3 x y z = false from by cases e : s3 x y z with | false => rfl | true => exact absurd (s3_iff.1 e) (fun h => h0 (h.1.1))]
    have d0 : decide (-16384 ≤ x) = false := decide_eq_false h0
    go_enter Try.func35, Try.ntmps35
    go_upto_region 1 with fail
    have hbp := below_new1 w (.cells #[.int .i64 x, .int .i64 y, .int .i64 z] 26)
    have zp : (w.alloc (.cells #[.int .i64 x, .int .i64 y, .int .i64 z] 26)).heap.size = w.heap.size + 1 := by simp
    have HB := Lib.hid hbp
    have kp := Lib.hid (Lok.new w 26 #[.int .i64 x, .int .i64 y, .int .i64 z])
    clear hbp
    generalize w.alloc (.cells #[.int .i64 x, .int .i64 y, .int .i64 z] 26) = Vp at *
    clear zp
    have p0 := kp.out.cell (i := 0) rfl
    have p1 := kp.out.cell (i := 1) rfl
    have p2 := kp.out.cell (i := 2) rfl
    go_wp2
    go_ret
    exact ⟨rfl, HB.out⟩
set_option maxRecDepth 100000 in
set_option maxHeartbeats 1000000 in
theorem rside_any (n : Int) (w : World) :
    Calls Try.prog 81 #[.int .i64 n] w fun e w' => e = .returned (.int .i64 (ordI n 0)) ∧ Below w.heap.size w w' := by
  rcases ordI_ways n 0 with ⟨h, e⟩ | ⟨h, e⟩ | ⟨h, e⟩ <;> rw [e] <;> clear e
  · have d1 : decide (n < 0) = true := decide_eq_true h
    go_enter Try.func81, Try.ntmps81
    go_wp2
    go_ret
    exact ⟨rfl, by (repeat (first | exact Below.refl _ _ | assumption | refine Below.drew ?_ | refine below_drewN ?_ _ | refine Below.setCell ?_ (by first | omega | (simp; done) | (simp; omega)) _ | refine Below.alloc ?_ (by first | omega | (simp; done) | (simp; omega)) _))⟩
  · have d1 : decide (n < 0) = false := decide_eq_false (by omega)
    have d2 : decide (0 < n) = false := decide_eq_false (by omega)
    go_enter Try.func81, Try.ntmps81
    go_wp2
    go_ret
    exact ⟨rfl, by (repeat (first | exact Below.refl _ _ | assumption | refine Below.drew ?_ | refine below_drewN ?_ _ | refine Below.setCell ?_ (by first | omega | (simp; done) | (simp; omega)) _ | refine Below.alloc ?_ (by first | omega | (simp; done) | (simp; omega)) _))⟩
  · have d1 : decide (n < 0) = false := decide_eq_false (by omega)
    have d2 : decide (0 < n) = true := decide_eq_true h
    go_enter Try.func81, Try.ntmps81
    go_wp2
    go_ret
    exact ⟨rfl, by (repeat (first | exact Below.refl _ _ | assumption | refine Below.drew ?_ | refine below_drewN ?_ _ | refine Below.setCell ?_ (by first | omega | (simp; done) | (simp; omega)) _ | refine Below.alloc ?_ (by first | omega | (simp; done) | (simp; omega)) _))⟩
set_option maxRecDepth 100000 in
set_option maxHeartbeats 4000000 in
theorem rarea_any (a1 a2 b1 b2 c1 c2 : Int) (t : Bool) (ht : (s2 a1 a2 && s2 b1 b2 && s2 c1 c2) = t) (w : World) :
    Calls Try.prog 25 #[.agg #[.int .i64 a1, .int .i64 a2], .agg #[.int .i64 b1, .int .i64 b2], .agg #[.int .i64 c1, .int .i64 c2]] w fun e' w' => e' = .returned (.tuple #[.int .i64 (vF t (ar a1 a2 b1 b2 c1 c2)), .int .i64 (rE t)]) ∧ Below w.heap.size w w' := by
  subst ht
  have HB := Lib.hid (Below.refl w.heap.size w)
  have S1 := Lib.hid (fun W => rsmall2_any a1 a2 W)
  have S2 := Lib.hid (fun W => rsmall2_any b1 b2 W)
  have S3 := Lib.hid (fun W => rsmall2_any c1 c2 W)
  cases h1 : s2 a1 a2 with
  | false =>
    rw [h1] at S1
    skip
    show Calls _ _ _ _ fun e' w' => e' = .returned (.tuple #[.int .i64 0, .int .i64 5]) ∧ _
    clear h1
    go_enter Try.func25, Try.ntmps25
    go_upto_region 1 with fail
    have hbx := below_new1 w (.cells #[.int .i64 a1, .int .i64 a2] 23)
    have zx : (w.alloc (.cells #[.int .i64 a1, .int .i64 a2] 23)).heap.size = w.heap.size + 1 := by simp
    have HB := Lib.hid hbx
    have kx := Lib.hid (Lok.new w 23 #[.int .i64 a1, .int .i64 a2])
    clear hbx
    generalize w.alloc (.cells #[.int .i64 a1, .int .i64 a2] 23) = Vx at *
    have hby := below_new1 Vx (.cells #[.int .i64 b1, .int .i64 b2] 23)
    replace kx := Lib.hid (kx.out.keep hby)
    have zy : (Vx.alloc (.cells #[.int .i64 b1, .int .i64 b2] 23)).heap.size = Vx.heap.size + 1 := by simp
    replace HB := Lib.hid (HB.out.trans (hby.mono HB.out.size))
    have ky := Lib.hid (Lok.new Vx 23 #[.int .i64 b1, .int .i64 b2])
    clear hby
    generalize Vx.alloc (.cells #[.int .i64 b1, .int .i64 b2] 23) = Vy at *
    rw [zx] at ky zy
    have hbz := below_new1 Vy (.cells #[.int .i64 c1, .int .i64 c2] 23)
    replace kx := Lib.hid (kx.out.keep hbz)
    replace ky := Lib.hid (ky.out.keep hbz)
    have zz : (Vy.alloc (.cells #[.int .i64 c1, .int .i64 c2] 23)).heap.size = Vy.heap.size + 1 := by simp
    replace HB := Lib.hid (HB.out.trans (hbz.mono HB.out.size))
    have kz := Lib.hid (Lok.new Vy 23 #[.int .i64 c1, .int .i64 c2])
    clear hbz
    generalize Vy.alloc (.cells #[.int .i64 c1, .int .i64 c2] 23) = Vz at *
    rw [zy] at kz
    clear zx zy zz
    have x0 := kx.out.cell (i := 0) rfl
    have x1 := kx.out.cell (i := 1) rfl
    go_wp2_with fail
    clear x0 x1
    (((with_reducible refine (S1.out _).mono ?_); rintro e w1 ⟨rfl, hb1⟩); replace HB := Lib.hid (HB.out.trans (hb1.mono HB.out.size)); replace kx := Lib.hid (kx.out.keep hb1); replace ky := Lib.hid (ky.out.keep hb1); replace kz := Lib.hid (kz.out.keep hb1); clear hb1)
    go_wp2
    go_ret2
    exact ⟨rfl, HB.out⟩
  | true =>
    rw [h1] at S1
    cases h2 : s2 b1 b2 with
    | false =>
      rw [h2] at S2
      skip
      show Calls _ _ _ _ fun e' w' => e' = .returned (.tuple #[.int .i64 0, .int .i64 5]) ∧ _
      clear h1 h2
      go_enter Try.func25, Try.ntmps25
      go_upto_region 1 with fail
      have hbx := below_new1 w (.cells #[.int .i64 a1, .int .i64 a2] 23)
      have zx : (w.alloc (.cells #[.int .i64 a1, .int .i64 a2] 23)).heap.size = w.heap.size + 1 := by simp
      have HB := Lib.hid hbx
      have kx := Lib.hid (Lok.new w 23 #[.int .i64 a1, .int .i64 a2])
      clear hbx
      generalize w.alloc (.cells #[.int .i64 a1, .int .i64 a2] 23) = Vx at *
      have hby := below_new1 Vx (.cells #[.int .i64 b1, .int .i64 b2] 23)
      replace kx := Lib.hid (kx.out.keep hby)
      have zy : (Vx.alloc (.cells #[.int .i64 b1, .int .i64 b2] 23)).heap.size = Vx.heap.size + 1 := by simp
      replace HB := Lib.hid (HB.out.trans (hby.mono HB.out.size))
      have ky := Lib.hid (Lok.new Vx 23 #[.int .i64 b1, .int .i64 b2])
      clear hby
      generalize Vx.alloc (.cells #[.int .i64 b1, .int .i64 b2] 23) = Vy at *
      rw [zx] at ky zy
      have hbz := below_new1 Vy (.cells #[.int .i64 c1, .int .i64 c2] 23)
      replace kx := Lib.hid (kx.out.keep hbz)
      replace ky := Lib.hid (ky.out.keep hbz)
      have zz : (Vy.alloc (.cells #[.int .i64 c1, .int .i64 c2] 23)).heap.size = Vy.heap.size + 1 := by simp
      replace HB := Lib.hid (HB.out.trans (hbz.mono HB.out.size))
      have kz := Lib.hid (Lok.new Vy 23 #[.int .i64 c1, .int .i64 c2])
      clear hbz
      generalize Vy.alloc (.cells #[.int .i64 c1, .int .i64 c2] 23) = Vz at *
      rw [zy] at kz
      clear zx zy zz
      have x0 := kx.out.cell (i := 0) rfl
      have x1 := kx.out.cell (i := 1) rfl
      go_wp2_with fail
      clear x0 x1
      (((with_reducible refine (S1.out _).mono ?_); rintro e w1 ⟨rfl, hb1⟩); replace HB := Lib.hid (HB.out.trans (hb1.mono HB.out.size)); replace kx := Lib.hid (kx.out.keep hb1); replace ky := Lib.hid (ky.out.keep hb1); replace kz := Lib.hid (kz.out.keep hb1); clear hb1)
      have y0 := ky.out.cell (i := 0) rfl
      have y1 := ky.out.cell (i := 1) rfl
      go_wp2_with fail
      clear y0 y1
      (((with_reducible refine (S2.out _).mono ?_); rintro e w2 ⟨rfl, hb2⟩); replace HB := Lib.hid (HB.out.trans (hb2.mono HB.out.size)); replace kx := Lib.hid (kx.out.keep hb2); replace ky := Lib.hid (ky.out.keep hb2); replace kz := Lib.hid (kz.out.keep hb2); clear hb2)
      go_wp2
      go_ret2
      exact ⟨rfl, HB.out⟩
    | true =>
      rw [h2] at S2
      cases h3 : s2 c1 c2 with
      | false =>
        rw [h3] at S3
        skip
        show Calls _ _ _ _ fun e' w' => e' = .returned (.tuple #[.int .i64 0, .int .i64 5]) ∧ _
        clear h1 h2 h3
        go_enter Try.func25, Try.ntmps25
        go_upto_region 1 with fail
        have hbx := below_new1 w (.cells #[.int .i64 a1, .int .i64 a2] 23)
        have zx : (w.alloc (.cells #[.int .i64 a1, .int .i64 a2] 23)).heap.size = w.heap.size + 1 := by simp
        have HB := Lib.hid hbx
        have kx := Lib.hid (Lok.new w 23 #[.int .i64 a1, .int .i64 a2])
        clear hbx
        generalize w.alloc (.cells #[.int .i64 a1, .int .i64 a2] 23) = Vx at *
        have hby := below_new1 Vx (.cells #[.int .i64 b1, .int .i64 b2] 23)
        replace kx := Lib.hid (kx.out.keep hby)
        have zy : (Vx.alloc (.cells #[.int .i64 b1, .int .i64 b2] 23)).heap.size = Vx.heap.size + 1 := by simp
        replace HB := Lib.hid (HB.out.trans (hby.mono HB.out.size))
        have ky := Lib.hid (Lok.new Vx 23 #[.int .i64 b1, .int .i64 b2])
        clear hby
        generalize Vx.alloc (.cells #[.int .i64 b1, .int .i64 b2] 23) = Vy at *
        rw [zx] at ky zy
        have hbz := below_new1 Vy (.cells #[.int .i64 c1, .int .i64 c2] 23)
        replace kx := Lib.hid (kx.out.keep hbz)
        replace ky := Lib.hid (ky.out.keep hbz)
        have zz : (Vy.alloc (.cells #[.int .i64 c1, .int .i64 c2] 23)).heap.size = Vy.heap.size + 1 := by simp
        replace HB := Lib.hid (HB.out.trans (hbz.mono HB.out.size))
        have kz := Lib.hid (Lok.new Vy 23 #[.int .i64 c1, .int .i64 c2])
        clear hbz
        generalize Vy.alloc (.cells #[.int .i64 c1, .int .i64 c2] 23) = Vz at *
        rw [zy] at kz
        clear zx zy zz
        have x0 := kx.out.cell (i := 0) rfl
        have x1 := kx.out.cell (i := 1) rfl
        go_wp2_with fail
        clear x0 x1
        (((with_reducible refine (S1.out _).mono ?_); rintro e w1 ⟨rfl, hb1⟩); replace HB := Lib.hid (HB.out.trans (hb1.mono HB.out.size)); replace kx := Lib.hid (kx.out.keep hb1); replace ky := Lib.hid (ky.out.keep hb1); replace kz := Lib.hid (kz.out.keep hb1); clear hb1)
        have y0 := ky.out.cell (i := 0) rfl
        have y1 := ky.out.cell (i := 1) rfl
        go_wp2_with fail
        clear y0 y1
        (((with_reducible refine (S2.out _).mono ?_); rintro e w2 ⟨rfl, hb2⟩); replace HB := Lib.hid (HB.out.trans (hb2.mono HB.out.size)); replace kx := Lib.hid (kx.out.keep hb2); replace ky := Lib.hid (ky.out.keep hb2); replace kz := Lib.hid (kz.out.keep hb2); clear hb2)
        have z0 := kz.out.cell (i := 0) rfl
        have z1 := kz.out.cell (i := 1) rfl
        go_wp2_with fail
        clear z0 z1
        (((with_reducible refine (S3.out _).mono ?_); rintro e w3 ⟨rfl, hb3⟩); replace HB := Lib.hid (HB.out.trans (hb3.mono HB.out.size)); replace kx := Lib.hid (kx.out.keep hb3); replace ky := Lib.hid (ky.out.keep hb3); replace kz := Lib.hid (kz.out.keep hb3); clear hb3)
        go_wp2
        go_ret2
        exact ⟨rfl, HB.out⟩
      | true =>
        rw [h3] at S3
        show Calls _ _ _ _ fun e' w' => e' = .returned (.tuple #[.int .i64 (ar a1 a2 b1 b2 c1 c2), .int .i64 0]) ∧ _
        have U1 := Lib.hid (fun W => rsub2_sm h1 h2 W)
        have U2 := Lib.hid (fun W => rsub2_sm h1 h3 W)
        have X := Lib.hid (fun W => rcross2_sm h1 h2 h3 W)
        generalize ar a1 a2 b1 b2 c1 c2 = n at *
        clear h1 h2 h3
        go_enter Try.func25, Try.ntmps25
        go_upto_region 1 with fail
        have hbx := below_new1 w (.cells #[.int .i64 a1, .int .i64 a2] 23)
        have zx : (w.alloc (.cells #[.int .i64 a1, .int .i64 a2] 23)).heap.size = w.heap.size + 1 := by simp
        have HB := Lib.hid hbx
        have kx := Lib.hid (Lok.new w 23 #[.int .i64 a1, .int .i64 a2])
        clear hbx
        generalize w.alloc (.cells #[.int .i64 a1, .int .i64 a2] 23) = Vx at *
        have hby := below_new1 Vx (.cells #[.int .i64 b1, .int .i64 b2] 23)
        replace kx := Lib.hid (kx.out.keep hby)
        have zy : (Vx.alloc (.cells #[.int .i64 b1, .int .i64 b2] 23)).heap.size = Vx.heap.size + 1 := by simp
        replace HB := Lib.hid (HB.out.trans (hby.mono HB.out.size))
        have ky := Lib.hid (Lok.new Vx 23 #[.int .i64 b1, .int .i64 b2])
        clear hby
        generalize Vx.alloc (.cells #[.int .i64 b1, .int .i64 b2] 23) = Vy at *
        rw [zx] at ky zy
        have hbz := below_new1 Vy (.cells #[.int .i64 c1, .int .i64 c2] 23)
        replace kx := Lib.hid (kx.out.keep hbz)
        replace ky := Lib.hid (ky.out.keep hbz)
        have zz : (Vy.alloc (.cells #[.int .i64 c1, .int .i64 c2] 23)).heap.size = Vy.heap.size + 1 := by simp
        replace HB := Lib.hid (HB.out.trans (hbz.mono HB.out.size))
        have kz := Lib.hid (Lok.new Vy 23 #[.int .i64 c1, .int .i64 c2])
        clear hbz
        generalize Vy.alloc (.cells #[.int .i64 c1, .int .i64 c2] 23) = Vz at *
        rw [zy] at kz
        clear zx zy zz
        have x0 := kx.out.cell (i := 0) rfl
        have x1 := kx.out.cell (i := 1) rfl
        go_wp2_with fail
        clear x0 x1
        (((with_reducible refine (S1.out _).mono ?_); rintro e w1 ⟨rfl, hb1⟩); replace HB := Lib.hid (HB.out.trans (hb1.mono HB.out.size)); replace kx := Lib.hid (kx.out.keep hb1); replace ky := Lib.hid (ky.out.keep hb1); replace kz := Lib.hid (kz.out.keep hb1); clear hb1)
        have y0 := ky.out.cell (i := 0) rfl
        have y1 := ky.out.cell (i := 1) rfl
        go_wp2_with fail
        clear y0 y1
        (((with_reducible refine (S2.out _).mono ?_); rintro e w2 ⟨rfl, hb2⟩); replace HB := Lib.hid (HB.out.trans (hb2.mono HB.out.size)); replace kx := Lib.hid (kx.out.keep hb2); replace ky := Lib.hid (ky.out.keep hb2); replace kz := Lib.hid (kz.out.keep hb2); clear hb2)
        have z0 := kz.out.cell (i := 0) rfl
        have z1 := kz.out.cell (i := 1) rfl
        go_wp2_with fail
        clear z0 z1
        (((with_reducible refine (S3.out _).mono ?_); rintro e w3 ⟨rfl, hb3⟩); replace HB := Lib.hid (HB.out.trans (hb3.mono HB.out.size)); replace kx := Lib.hid (kx.out.keep hb3); replace ky := Lib.hid (ky.out.keep hb3); replace kz := Lib.hid (kz.out.keep hb3); clear hb3)
        clear S1 S2 S3
        go_upto_region 3 with fail
        have qx0 : ∀ D : Of (PastV w3), _ := fun D => (kx.out.keep (show Below w3.heap.size w3 D.world from D.holds)).cell (i := 0) rfl
        have qx1 : ∀ D : Of (PastV w3), _ := fun D => (kx.out.keep (show Below w3.heap.size w3 D.world from D.holds)).cell (i := 1) rfl
        have qy0 : ∀ D : Of (PastV w3), _ := fun D => (ky.out.keep (show Below w3.heap.size w3 D.world from D.holds)).cell (i := 0) rfl
        have qy1 : ∀ D : Of (PastV w3), _ := fun D => (ky.out.keep (show Below w3.heap.size w3 D.world from D.holds)).cell (i := 1) rfl
        have qz0 : ∀ D : Of (PastV w3), _ := fun D => (kz.out.keep (show Below w3.heap.size w3 D.world from D.holds)).cell (i := 0) rfl
        have qz1 : ∀ D : Of (PastV w3), _ := fun D => (kz.out.keep (show Below w3.heap.size w3 D.world from D.holds)).cell (i := 1) rfl
        have ST := Lib.hid (pastV_stays w3)
        have ne : Nonempty (Of (PastV w3)) := ⟨⟨w3, Below.refl _ _⟩⟩
        refine wp_region_class (S := PastV w3) (by kernel_rfl) (by kernel_rfl) (Below.refl _ _).drew ?_
        repeat (go_big_quiet_step (first | (go_at_call 47; first | (with_reducible exact class_call ST.out _ (U1.out _)) | (with_reducible exact class_call ST.out _ (U2.out _))) | (go_at_call 46; first | (with_reducible exact class_call ST.out _ (X.out _)))))
        refine wpQuiet_nil ?_
        rintro _ ⟨D, rfl⟩
        have hD : Below w3.heap.size w3 D.world := D.holds
        replace HB := Lib.hid (HB.out.trans (hD.mono HB.out.size))
        replace kx := Lib.hid (kx.out.keep hD)
        replace ky := Lib.hid (ky.out.keep hD)
        replace kz := Lib.hid (kz.out.keep hD)
        generalize D.world = vd at *
        clear qx0 qx1 qy0 qy1 qz0 qz1 ne ST hD
        go_wp2
        go_ret2
        exact ⟨rfl, HB.out⟩
set_option maxRecDepth 100000 in
set_option maxHeartbeats 4000000 in
theorem rsideOf_any (a1 a2 b1 b2 c1 c2 : Int) (t : Bool) (ht : (s2 a1 a2 && s2 b1 b2 && s2 c1 c2) = t) (w : World) :
    Calls Try.prog 67 #[.agg #[.int .i64 a1, .int .i64 a2], .agg #[.int .i64 b1, .int .i64 b2], .agg #[.int .i64 c1, .int .i64 c2]] w fun e' w' => e' = .returned (.tuple #[.int .i64 (ordI (vF t (ar a1 a2 b1 b2 c1 c2)) 0), .int .i64 (rE t)]) ∧ Below w.heap.size w w' := by
  have HB := Lib.hid (Below.refl w.heap.size w)
  have P := Lib.hid (fun W => rarea_any a1 a2 b1 b2 c1 c2 t ht W)
  generalize vF t (ar a1 a2 b1 b2 c1 c2) = n at *
  generalize rE t = e0 at *
  have Q := Lib.hid (fun W => rside_any n W)
  generalize ordI n 0 = s at *
  clear ht
  go_enter Try.func67, Try.ntmps67
  go_upto_region 1 with fail
  have hbx := below_new1 w (.cells #[.int .i64 a1, .int .i64 a2] 23)
  have zx : (w.alloc (.cells #[.int .i64 a1, .int .i64 a2] 23)).heap.size = w.heap.size + 1 := by simp
  have HB := Lib.hid hbx
  have kx := Lib.hid (Lok.new w 23 #[.int .i64 a1, .int .i64 a2])
  clear hbx
  generalize w.alloc (.cells #[.int .i64 a1, .int .i64 a2] 23) = Vx at *
  have hby := below_new1 Vx (.cells #[.int .i64 b1, .int .i64 b2] 23)
  replace kx := Lib.hid (kx.out.keep hby)
  have zy : (Vx.alloc (.cells #[.int .i64 b1, .int .i64 b2] 23)).heap.size = Vx.heap.size + 1 := by simp
  replace HB := Lib.hid (HB.out.trans (hby.mono HB.out.size))
  have ky := Lib.hid (Lok.new Vx 23 #[.int .i64 b1, .int .i64 b2])
  clear hby
  generalize Vx.alloc (.cells #[.int .i64 b1, .int .i64 b2] 23) = Vy at *
  rw [zx] at ky zy
  have hbz := below_new1 Vy (.cells #[.int .i64 c1, .int .i64 c2] 23)
  replace kx := Lib.hid (kx.out.keep hbz)
  replace ky := Lib.hid (ky.out.keep hbz)
  have zz : (Vy.alloc (.cells #[.int .i64 c1, .int .i64 c2] 23)).heap.size = Vy.heap.size + 1 := by simp
  replace HB := Lib.hid (HB.out.trans (hbz.mono HB.out.size))
  have kz := Lib.hid (Lok.new Vy 23 #[.int .i64 c1, .int .i64 c2])
  clear hbz
  generalize Vy.alloc (.cells #[.int .i64 c1, .int .i64 c2] 23) = Vz at *
  rw [zy] at kz
  clear zx zy zz
  have x0 := kx.out.cell (i := 0) rfl
  have x1 := kx.out.cell (i := 1) rfl
  have y0 := ky.out.cell (i := 0) rfl
  have y1 := ky.out.cell (i := 1) rfl
  have z0 := kz.out.cell (i := 0) rfl
  have z1 := kz.out.cell (i := 1) rfl
  go_wp2_with fail
  clear x0 x1 y0 y1 z0 z1
  (((with_reducible refine (P.out _).mono ?_); rintro e w1 ⟨rfl, hb1⟩); replace HB := Lib.hid (HB.out.trans (hb1.mono HB.out.size)); clear hb1)
  go_wp2_with fail
  (((with_reducible refine (Q.out _).mono ?_); rintro e w2 ⟨rfl, hb2⟩); replace HB := Lib.hid (HB.out.trans (hb2.mono HB.out.size)); clear hb2)
  go_wp2
  go_ret2
  exact ⟨rfl, HB.out⟩
end Go.Proofs.Ytllamakemgogaaa
