/-
  Texts in one: VcF, SgC, SgR, MtR, MtS.
-/
import Derived.Test.YtllamakemgogaaaGaB
import Derived.Test.YtllamakemgogaaaGaF
/-
  Contracts of package vec: Cross3.
-/
namespace Go.Proofs.Ytllamakemgogaaa
open Go.RowKit

/-- Cross3's part along axis k. -/
def cX (a b c d e f : Int) (k : Nat) : Int := dX a b c k * dY d e f k - dY a b c k * dX d e f k
def cV (a b c d e f : Int) (k j : Nat) : Int := if j < k then cX a b c d e f j else 0
def cC (a b c d e f : Int) (k : Nat) : Array Value := #[.int .i64 (cV a b c d e f k 0), .int .i64 (cV a b c d e f k 1), .int .i64 (cV a b c d e f k 2)]
theorem cC_set (a b c d e f : Int) {k : Nat} (h : k < 3) : (cC a b c d e f k).setIfInBounds k (.int .i64 (cX a b c d e f k)) = cC a b c d e f (k + 1) := by
  rcases show k = 0 ∨ k = 1 ∨ k = 2 by omega with rfl | rfl | rfl <;> simp [cC, cV]
theorem cC_at (a b c d e f : Int) {k : Nat} (h : k < 3) : (cC a b c d e f k)[k]? = some (.int .i64 0) := by
  rcases show k = 0 ∨ k = 1 ∨ k = 2 by omega with rfl | rfl | rfl <;> simp [cC, cV]
theorem cC_0 (a b c d e f : Int) : cC a b c d e f 0 = #[.int .i64 0, .int .i64 0, .int .i64 0] := by simp [cC, cV]
theorem cC_3 (a b c d e f : Int) : cC a b c d e f 3 = #[.int .i64 (b * f - c * e), .int .i64 (c * d - a * f), .int .i64 (a * e - b * d)] := by simp [cC, cV, cX, dX, dY, pt]
theorem drop_near {a b c : Int} (ha : NR a) (hb : NR b) (hc : NR c) (k : Nat) : n2 (dX a b c k) (dY a b c k) = true := n2_iff.2 ⟨pt_near ha hb hc _, pt_near ha hb hc _⟩

end Go.Proofs.Ytllamakemgogaaa
/-
  Contracts of package sign: the method of a triangle in space, Normal. (gen/SgC.py)
-/
namespace Go.Proofs.Ytllamakemgogaaa
open Go.RowKit

end Go.Proofs.Ytllamakemgogaaa
/-
  The reference limewashref09: Small2, Small3, All2, All3, side, Area, Side. (gen/SgR.py)
-/
namespace Go.Proofs.Ytllamakemgogaaa
open Go.RowKit

set_option maxRecDepth 100000 in
set_option maxHeartbeats 1000000 in
theorem rsmall2_any (x y : Int) (w : World) :
    Calls Try.prog 23 #[.agg #[.int .i64 x, .int .i64 y]] w fun e' w' => e' = .returned (.bool (s2 x y)) ∧ Below w.heap.size w w' := by
  have HB := Lib.hid (Below.refl w.heap.size w)
  by_cases h0 : -4096 ≤ x
  · by_cases h1 : x ≤ 4096
    · by_cases h2 : -4096 ≤ y
      · by_cases h3 : y ≤ 4096
        · rw [show s2 x y = true from s2_iff.2 ⟨⟨h0, h1⟩, ⟨h2, h3⟩⟩]
          go_enter Try.func23, Try.ntmps23
          go_upto_region 1 with fail
          have hbp := below_new1 w (.cells #[.int .i64 x, .int .i64 y] 23)
          have zp : (w.alloc (.cells #[.int .i64 x, .int .i64 y] 23)).heap.size = w.heap.size + 1 := by simp
          have HB := Lib.hid hbp
          have kp := Lib.hid (Lok.new w 23 #[.int .i64 x, .int .i64 y])
          clear hbp
          generalize w.alloc (.cells #[.int .i64 x, .int .i64 y] 23) = Vp at *
          clear zp
          have p0 := kp.out.cell (i := 0) rfl
          have p1 := kp.out.cell (i := 1) rfl
          go_wp2
          go_ret
          exact ⟨rfl, HB.out⟩
        · rw [show s2 x y = false from by cases e : s2 x y with | false => rfl | true => exact absurd (s2_iff.1 e) (fun h => h3 (h.2.2))]
          have d3 : decide (y ≤ 4096) = false := decide_eq_false h3
          go_enter Try.func23, Try.ntmps23
          go_upto_region 1 with fail
          have hbp := below_new1 w (.cells #[.int .i64 x, .int .i64 y] 23)
          have zp : (w.alloc (.cells #[.int .i64 x, .int .i64 y] 23)).heap.size = w.heap.size + 1 := by simp
          have HB := Lib.hid hbp
          have kp := Lib.hid (Lok.new w 23 #[.int .i64 x, .int .i64 y])
          clear hbp
          generalize w.alloc (.cells #[.int .i64 x, .int .i64 y] 23) = Vp at *
          clear zp
          have p0 := kp.out.cell (i := 0) rfl
          have p1 := kp.out.cell (i := 1) rfl
          go_wp2
          go_ret
          exact ⟨rfl, HB.out⟩
      · rw [show s2 x y = false from by cases e : s2 x y with | false => rfl | true => exact absurd (s2_iff.1 e) (fun h => h2 (h.2.1))]
        have d2 : decide (-4096 ≤ y) = false := decide_eq_false h2
        go_enter Try.func23, Try.ntmps23
        go_upto_region 1 with fail
        have hbp := below_new1 w (.cells #[.int .i64 x, .int .i64 y] 23)
        have zp : (w.alloc (.cells #[.int .i64 x, .int .i64 y] 23)).heap.size = w.heap.size + 1 := by simp
        have HB := Lib.hid hbp
        have kp := Lib.hid (Lok.new w 23 #[.int .i64 x, .int .i64 y])
        clear hbp
        generalize w.alloc (.cells #[.int .i64 x, .int .i64 y] 23) = Vp at *
        clear zp
        have p0 := kp.out.cell (i := 0) rfl
        have p1 := kp.out.cell (i := 1) rfl
        go_wp2
        go_ret
        exact ⟨rfl, HB.out⟩
    · rw [show s2 x y = false from by cases e : s2 x y with | false => rfl | true => exact absurd (s2_iff.1 e) (fun h => h1 (h.1.2))]
      have d1 : decide (x ≤ 4096) = false := decide_eq_false h1
      go_enter Try.func23, Try.ntmps23
      go_upto_region 1 with fail
      have hbp := below_new1 w (.cells #[.int .i64 x, .int .i64 y] 23)
      have zp : (w.alloc (.cells #[.int .i64 x, .int .i64 y] 23)).heap.size = w.heap.size + 1 := by simp
      have HB := Lib.hid hbp
      have kp := Lib.hid (Lok.new w 23 #[.int .i64 x, .int .i64 y])
      clear hbp
      generalize w.alloc (.cells #[.int .i64 x, .int .i64 y] 23) = Vp at *
      clear zp
      have p0 := kp.out.cell (i := 0) rfl
      have p1 := kp.out.cell (i := 1) rfl
      go_wp2
      go_ret
      exact ⟨rfl, HB.out⟩
  · rw [show s2 x y = false from by cases e : s2 x y with | false => rfl | true => exact absurd (s2_iff.1 e) (fun h => h0 (h.1.1))]
    have d0 : decide (-4096 ≤ x) = false := decide_eq_false h0
    go_enter Try.func23, Try.ntmps23
    go_upto_region 1 with fail
    have hbp := below_new1 w (.cells #[.int .i64 x, .int .i64 y] 23)
    have zp : (w.alloc (.cells #[.int .i64 x, .int .i64 y] 23)).heap.size = w.heap.size + 1 := by simp
    have HB := Lib.hid hbp
    have kp := Lib.hid (Lok.new w 23 #[.int .i64 x, .int .i64 y])
    clear hbp
    generalize w.alloc (.cells #[.int .i64 x, .int .i64 y] 23) = Vp at *
    clear zp
    have p0 := kp.out.cell (i := 0) rfl
    have p1 := kp.out.cell (i := 1) rfl
    go_wp2
    go_ret
    exact ⟨rfl, HB.out⟩
set_option maxRecDepth 100000 in
set_option maxHeartbeats 1000000 in
theorem rsmall3_any (x y z : Int) (w : World) :
    Calls Try.prog 35 #[.agg #[.int .i64 x, .int .i64 y, .int .i64 z]] w fun e' w' => e' = .returned (.bool (s3 x y z)) ∧ Below w.heap.size w w' := by
  have HB := Lib.hid (Below.refl w.heap.size w)
  by_cases h0 : -16384 ≤ x
  · by_cases h1 : x ≤ 16384
    · by_cases h2 : -16384 ≤ y
      · by_cases h3 : y ≤ 16384
        · by_cases h4 : -16384 ≤ z
          · by_cases h5 : z ≤ 16384
            · rw [show s3 x y z = true from s3_iff.2 ⟨⟨h0, h1⟩, ⟨h2, h3⟩, ⟨h4, h5⟩⟩]
              go_enter Try.func35, Try.ntmps35
              go_upto_region 1 with fail
              have hbp := below_new1 w (.cells #[.int .i64 x, .int .i64 y, .int .i64 z] 26)
              have zp : (w.alloc (.cells #[.int .i64 x, .int .i64 y, .int .i64 z] 26)).heap.size = w.heap.size + 1 := by simp
              have HB := Lib.hid hbp
              have kp := Lib.hid (Lok.new w 26 #[.int .i64 x, .int .i64 y, .int .i64 z])
              clear hbp
              generalize w.alloc (.cells #[.int .i64 x, .int .i64 y, .int .i64 z] 26) = Vp at *
              clear zp
              have p0 := kp.out.cell (i := 0) rfl
              have p1 := kp.out.cell (i := 1) rfl
              have p2 := kp.out.cell (i := 2) rfl
              go_wp2
              go_ret
              exact ⟨rfl, HB.out⟩
            · rw [show s3 x y z = false from by cases e : s3 x y z with | false => rfl | true => exact absurd (s3_iff.1 e) (fun h => h5 (h.2.2.2))]
              have d5 : decide (z ≤ 16384) = false := decide_eq_false h5
              go_enter Try.func35, Try.ntmps35
              go_upto_region 1 with fail
              have hbp := below_new1 w (.cells #[.int .i64 x, .int .i64 y, .int .i64 z] 26)
              have zp : (w.alloc (.cells #[.int .i64 x, .int .i64 y, .int .i64 z] 26)).heap.size = w.heap.size + 1 := by simp
              have HB := Lib.hid hbp
              have kp := Lib.hid (Lok.new w 26 #[.int .i64 x, .int .i64 y, .int .i64 z])
              clear hbp
              generalize w.alloc (.cells #[.int .i64 x, .int .i64 y, .int .i64 z] 26) = Vp at *
              clear zp
              have p0 := kp.out.cell (i := 0) rfl
              have p1 := kp.out.cell (i := 1) rfl
              have p2 := kp.out.cell (i := 2) rfl
              go_wp2
              go_ret
              exact ⟨rfl, HB.out⟩
          · rw [show s3 x y z = false from by cases e : s3 x y z with | false => rfl | true => exact absurd (s3_iff.1 e) (fun h => h4 (h.2.2.1))]
            have d4 : decide (-16384 ≤ z) = false := decide_eq_false h4
            go_enter Try.func35, Try.ntmps35
            go_upto_region 1 with fail
            have hbp := below_new1 w (.cells #[.int .i64 x, .int .i64 y, .int .i64 z] 26)
            have zp : (w.alloc (.cells #[.int .i64 x, .int .i64 y, .int .i64 z] 26)).heap.size = w.heap.size + 1 := by simp
            have HB := Lib.hid hbp
            have kp := Lib.hid (Lok.new w 26 #[.int .i64 x, .int .i64 y, .int .i64 z])
            clear hbp
            generalize w.alloc (.cells #[.int .i64 x, .int .i64 y, .int .i64 z] 26) = Vp at *
            clear zp
            have p0 := kp.out.cell (i := 0) rfl
            have p1 := kp.out.cell (i := 1) rfl
            have p2 := kp.out.cell (i := 2) rfl
            go_wp2
            go_ret
            exact ⟨rfl, HB.out⟩
        · rw [show s3 x y z = false from by cases e : s3 x y z with | false => rfl | true => exact absurd (s3_iff.1 e) (fun h => h3 (h.2.1.2))]
          have d3 : decide (y ≤ 16384) = false := decide_eq_false h3
          go_enter Try.func35, Try.ntmps35
          go_upto_region 1 with fail
          have hbp := below_new1 w (.cells #[.int .i64 x, .int .i64 y, .int .i64 z] 26)
          have zp : (w.alloc (.cells #[.int .i64 x, .int .i64 y, .int .i64 z] 26)).heap.size = w.heap.size + 1 := by simp
          have HB := Lib.hid hbp
          have kp := Lib.hid (Lok.new w 26 #[.int .i64 x, .int .i64 y, .int .i64 z])
          clear hbp
          generalize w.alloc (.cells #[.int .i64 x, .int .i64 y, .int .i64 z] 26) = Vp at *
          clear zp
          have p0 := kp.out.cell (i := 0) rfl
          have p1 := kp.out.cell (i := 1) rfl
          have p2 := kp.out.cell (i := 2) rfl
          go_wp2
          go_ret
          exact ⟨rfl, HB.out⟩
      · rw [show s3 x y z = false from by cases e : s3 x y z with | false => rfl | true => exact absurd (s3_iff.1 e) (fun h => h2 (h.2.1.1))]
        have d2 : decide (-16384 ≤ y) = false := decide_eq_false h2
        go_enter Try.func35, Try.ntmps35
        go_upto_region 1 with fail
        have hbp := below_new1 w (.cells #[.int .i64 x, .int .i64 y, .int .i64 z] 26)
        have zp : (w.alloc (.cells #[.int .i64 x, .int .i64 y, .int .i64 z] 26)).heap.size = w.heap.size + 1 := by simp
        have HB := Lib.hid hbp
        have kp := Lib.hid (Lok.new w 26 #[.int .i64 x, .int .i64 y, .int .i64 z])
        clear hbp
        generalize w.alloc (.cells #[.int .i64 x, .int .i64 y, .int .i64 z] 26) = Vp at *
        clear zp
        have p0 := kp.out.cell (i := 0) rfl
        have p1 := kp.out.cell (i := 1) rfl
        have p2 := kp.out.cell (i := 2) rfl
        go_wp2
        go_ret
        exact ⟨rfl, HB.out⟩
    · rw [show s3 x y z = false from by cases e : s3 x y z with | false => rfl | true => exact absurd (s3_iff.1 e) (fun h => h1 (h.1.2))]
      have d1 : decide (x ≤ 16384) = false := decide_eq_false h1
      go_enter Try.func35, Try.ntmps35
      go_upto_region 1 with fail
      have hbp := below_new1 w (.cells #[.int .i64 x, .int .i64 y, .int .i64 z] 26)
      have zp : (w.alloc (.cells #[.int .i64 x, .int .i64 y, .int .i64 z] 26)).heap.size = w.heap.size + 1 := by simp
      have HB := Lib.hid hbp
      have kp := Lib.hid (Lok.new w 26 #[.int .i64 x, .int .i64 y, .int .i64 z])
      clear hbp
      generalize w.alloc (.cells #[.int .i64 x, .int .i64 y, .int .i64 z] 26) = Vp at *
      clear zp
      have p0 := kp.out.cell (i := 0) rfl
      have p1 := kp.out.cell (i := 1) rfl
      have p2 := kp.out.cell (i := 2) rfl
      go_wp2
      go_ret
      exact ⟨rfl, HB.out⟩
  · rw [show s3 x y z = false from by cases e : s3 x y z with | false => rfl | true => exact absurd (s3_iff.1 e) (fun h => h0 (h.1.1))]
    have d0 : decide (-16384 ≤ x) = false := decide_eq_false h0
    go_enter Try.func35, Try.ntmps35
    go_upto_region 1 with fail
    have hbp := below_new1 w (.cells #[.int .i64 x, .int .i64 y, .int .i64 z] 26)
    have zp : (w.alloc (.cells #[.int .i64 x, .int .i64 y, .int .i64 z] 26)).heap.size = w.heap.size + 1 := by simp
    have HB := Lib.hid hbp
    have kp := Lib.hid (Lok.new w 26 #[.int .i64 x, .int .i64 y, .int .i64 z])
    clear hbp
    generalize w.alloc (.cells #[.int .i64 x, .int .i64 y, .int .i64 z] 26) = Vp at *
    clear zp
    have p0 := kp.out.cell (i := 0) rfl
    have p1 := kp.out.cell (i := 1) rfl
    have p2 := kp.out.cell (i := 2) rfl
    go_wp2
    go_ret
    exact ⟨rfl, HB.out⟩
set_option maxRecDepth 100000 in
set_option maxHeartbeats 1000000 in
theorem rside_any (n : Int) (w : World) :
    Calls Try.prog 81 #[.int .i64 n] w fun e w' => e = .returned (.int .i64 (ordI n 0)) ∧ Below w.heap.size w w' := by
  rcases ordI_ways n 0 with ⟨h, e⟩ | ⟨h, e⟩ | ⟨h, e⟩ <;> rw [e] <;> clear e
  · have d1 : decide (n < 0) = true := decide_eq_true h
    go_enter Try.func81, Try.ntmps81
    go_wp2
    go_ret
    exact ⟨rfl, by (repeat (first | exact Below.refl _ _ | assumption | refine Below.drew ?_ | refine below_drewN ?_ _ | refine Below.setCell ?_ (by first | omega | (simp; done) | (simp; omega)) _ | refine Below.alloc ?_ (by first | omega | (simp; done) | (simp; omega)) _))⟩
  · have d1 : decide (n < 0) = false := decide_eq_false (by omega)
    have d2 : decide (0 < n) = false := decide_eq_false (by omega)
    go_enter Try.func81, Try.ntmps81
    go_wp2
    go_ret
    exact ⟨rfl, by (repeat (first | exact Below.refl _ _ | assumption | refine Below.drew ?_ | refine below_drewN ?_ _ | refine Below.setCell ?_ (by first | omega | (simp; done) | (simp; omega)) _ | refine Below.alloc ?_ (by first | omega | (simp; done) | (simp; omega)) _))⟩
  · have d1 : decide (n < 0) = false := decide_eq_false (by omega)
    have d2 : decide (0 < n) = true := decide_eq_true h
    go_enter Try.func81, Try.ntmps81
    go_wp2
    go_ret
    exact ⟨rfl, by (repeat (first | exact Below.refl _ _ | assumption | refine Below.drew ?_ | refine below_drewN ?_ _ | refine Below.setCell ?_ (by first | omega | (simp; done) | (simp; omega)) _ | refine Below.alloc ?_ (by first | omega | (simp; done) | (simp; omega)) _))⟩
set_option maxRecDepth 100000 in
set_option maxHeartbeats 4000000 in
theorem rarea_any (a1 a2 b1 b2 c1 c2 : Int) (t : Bool) (ht : (s2 a1 a2 && s2 b1 b2 && s2 c1 c2) = t) (w : World) :
    Calls Try.prog 25 #[.agg #[.int .i64 a1, .int .i64 a2], .agg #[.int .i64 b1, .int .i64 b2], .agg #[.int .i64 c1, .int .i64 c2]] w fun e' w' => e' = .returned (.tuple #[.int .i64 (vF t (ar a1 a2 b1 b2 c1 c2)), .int .i64 (rE t)]) ∧ Below w.heap.size w w' := by
  subst ht
  have HB := Lib.hid (Below.refl w.heap.size w)
  have S1 := Lib.hid (fun W => rsmall2_any a1 a2 W)
  have S2 := Lib.hid (fun W => rsmall2_any b1 b2 W)
  have S3 := Lib.hid (fun W => rsmall2_any c1 c2 W)
  cases h1 : s2 a1 a2 with
  | false =>
    rw [h1] at S1
    skip
    show Calls _ _ _ _ fun e' w' => e' = .returned (.tuple #[.int .i64 0, .int .i64 5]) ∧ _
    clear h1
    go_enter Try.func25, Try.ntmps25
    go_upto_region 1 with fail
    have hbx := below_new1 w (.cells #[.int .i64 a1, .int .i64 a2] 23)
    have zx : (w.alloc (.cells #[.int .i64 a1, .int .i64 a2] 23)).heap.size = w.heap.size + 1 := by simp
    have HB := Lib.hid hbx
    have kx := Lib.hid (Lok.new w 23 #[.int .i64 a1, .int .i64 a2])
    clear hbx
    generalize w.alloc (.cells #[.int .i64 a1, .int .i64 a2] 23) = Vx at *
    have hby := below_new1 Vx (.cells #[.int .i64 b1, .int .i64 b2] 23)
    replace kx := Lib.hid (kx.out.keep hby)
    have zy : (Vx.alloc (.cells #[.int .i64 b1, .int .i64 b2] 23)).heap.size = Vx.heap.size + 1 := by simp
    replace HB := Lib.hid (HB.out.trans (hby.mono HB.out.size))
    have ky := Lib.hid (Lok.new Vx 23 #[.int .i64 b1, .int .i64 b2])
    clear hby
    generalize Vx.alloc (.cells #[.int .i64 b1, .int .i64 b2] 23) = Vy at *
    rw [zx] at ky zy
    have hbz := below_new1 Vy (.cells #[.int .i64 c1, .int .i64 c2] 23)
    replace kx := Lib.hid (kx.out.keep hbz)
    replace ky := Lib.hid (ky.out.keep hbz)
    have zz : (Vy.alloc (.cells #[.int .i64 c1, .int .i64 c2] 23)).heap.size = Vy.heap.size + 1 := by simp
    replace HB := Lib.hid (HB.out.trans (hbz.mono HB.out.size))
    have kz := Lib.hid (Lok.new Vy 23 #[.int .i64 c1, .int .i64 c2])
    clear hbz
    generalize Vy.alloc (.cells #[.int .i64 c1, .int .i64 c2] 23) = Vz at *
    rw [zy] at kz
    clear zx zy zz
    have x0 := kx.out.cell (i := 0) rfl
    have x1 := kx.out.cell (i := 1) rfl
    go_wp2_with fail
    clear x0 x1
    (((with_reducible refine (S1.out _).mono ?_); rintro e w1 ⟨rfl, hb1⟩); replace HB := Lib.hid (HB.out.trans (hb1.mono HB.out.size)); replace kx := Lib.hid (kx.out.keep hb1); replace ky := Lib.hid (ky.out.keep hb1); replace kz := Lib.hid (kz.out.keep hb1); clear hb1)
    go_wp2
    go_ret2
    exact ⟨rfl, HB.out⟩
  | true =>
    rw [h1] at S1
    cases h2 : s2 b1 b2 with
    | false =>
      rw [h2] at S2
      skip
      show Calls _ _ _ _ fun e' w' => e' = .returned (.tuple #[.int .i64 0, .int .i64 5]) ∧ _
      clear h1 h2
      go_enter Try.func25, Try.ntmps25
      go_upto_region 1 with fail
      have hbx := below_new1 w (.cells #[.int .i64 a1, .int .i64 a2] 23)
      have zx : (w.alloc (.cells #[.int .i64 a1, .int .i64 a2] 23)).heap.size = w.heap.size + 1 := by simp
      have HB := Lib.hid hbx
      have kx := Lib.hid (Lok.new w 23 #[.int .i64 a1, .int .i64 a2])
      clear hbx
      generalize w.alloc (.cells #[.int .i64 a1, .int .i64 a2] 23) = Vx at *
      have hby := below_new1 Vx (.cells #[.int .i64 b1, .int .i64 b2] 23)
      replace kx := Lib.hid (kx.out.keep hby)
      have zy : (Vx.alloc (.cells #[.int .i64 b1, .int .i64 b2] 23)).heap.size = Vx.heap.size + 1 := by simp
      replace HB := Lib.hid (HB.out.trans (hby.mono HB.out.size))
      have ky := Lib.hid (Lok.new Vx 23 #[.int .i64 b1, .int .i64 b2])
      clear hby
      generalize Vx.alloc (.cells #[.int .i64 b1, .int .i64 b2] 23) = Vy at *
      rw [zx] at ky zy
      have hbz := below_new1 Vy (.cells #[.int .i64 c1, .int .i64 c2] 23)
      replace kx := Lib.hid (kx.out.keep hbz)
      replace ky := Lib.hid (ky.out.keep hbz)
      have zz : (Vy.alloc (.cells #[.int .i64 c1, .int .i64 c2] 23)).heap.size = Vy.heap.size + 1 := by simp
      replace HB := Lib.hid (HB.out.trans (hbz.mono HB.out.size))
      have kz := Lib.hid (Lok.new Vy 23 #[.int .i64 c1, .int .i64 c2])
      clear hbz
      generalize Vy.alloc (.cells #[.int .i64 c1, .int .i64 c2] 23) = Vz at *
      rw [zy] at kz
      clear zx zy zz
      have x0 := kx.out.cell (i := 0) rfl
      have x1 := kx.out.cell (i := 1) rfl
      go_wp2_with fail
      clear x0 x1
      (((with_reducible refine (S1.out _).mono ?_); rintro e w1 ⟨rfl, hb1⟩); replace HB := Lib.hid (HB.out.trans (hb1.mono HB.out.size)); replace kx := Lib.hid (kx.out.keep hb1); replace ky := Lib.hid (ky.out.keep hb1); replace kz := Lib.hid (kz.out.keep hb1); clear hb1)
      have y0 := ky.out.cell (i := 0) rfl
      have y1 := ky.out.cell (i := 1) rfl
      go_wp2_with fail
      clear y0 y1
      (((with_reducible refine (S2.out _).mono ?_); rintro e w2 ⟨rfl, hb2⟩); replace HB := Lib.hid (HB.out.trans (hb2.mono HB.out.size)); replace kx := Lib.hid (kx.out.keep hb2); replace ky := Lib.hid (ky.out.keep hb2); replace kz := Lib.hid (kz.out.keep hb2); clear hb2)
      go_wp2
      go_ret2
      exact ⟨rfl, HB.out⟩
    | true =>
      rw [h2] at S2
      cases h3 : s2 c1 c2 with
      | false =>
        rw [h3] at S3
        skip
        show Calls _ _ _ _ fun e' w' => e' = .returned (.tuple #[.int .i64 0, .int .i64 5]) ∧ _
        clear h1 h2 h3
        go_enter Try.func25, Try.ntmps25
        go_upto_region 1 with fail
        have hbx := below_new1 w (.cells #[.int .i64 a1, .int .i64 a2] 23)
        have zx : (w.alloc (.cells #[.int .i64 a1, .int .i64 a2] 23)).heap.size = w.heap.size + 1 := by simp
        have HB := Lib.hid hbx
        have kx := Lib.hid (Lok.new w 23 #[.int .i64 a1, .int .i64 a2])
        clear hbx
        generalize w.alloc (.cells #[.int .i64 a1, .int .i64 a2] 23) = Vx at *
        have hby := below_new1 Vx (.cells #[.int .i64 b1, .int .i64 b2] 23)
        replace kx := Lib.hid (kx.out.keep hby)
        have zy : (Vx.alloc (.cells #[.int .i64 b1, .int .i64 b2] 23)).heap.size = Vx.heap.size + 1 := by simp
        replace HB := Lib.hid (HB.out.trans (hby.mono HB.out.size))
        have ky := Lib.hid (Lok.new Vx 23 #[.int .i64 b1, .int .i64 b2])
        clear hby
        generalize Vx.alloc (.cells #[.int .i64 b1, .int .i64 b2] 23) = Vy at *
        rw [zx] at ky zy
        have hbz := below_new1 Vy (.cells #[.int .i64 c1, .int .i64 c2] 23)
        replace kx := Lib.hid (kx.out.keep hbz)
        replace ky := Lib.hid (ky.out.keep hbz)
        have zz : (Vy.alloc (.cells #[.int .i64 c1, .int .i64 c2] 23)).heap.size = Vy.heap.size + 1 := by simp
        replace HB := Lib.hid (HB.out.trans (hbz.mono HB.out.size))
        have kz := Lib.hid (Lok.new Vy 23 #[.int .i64 c1, .int .i64 c2])
        clear hbz
        generalize Vy.alloc (.cells #[.int .i64 c1, .int .i64 c2] 23) = Vz at *
        rw [zy] at kz
        clear zx zy zz
        have x0 := kx.out.cell (i := 0) rfl
        have x1 := kx.out.cell (i := 1) rfl
        go_wp2_with fail
        clear x0 x1
        (((with_reducible refine (S1.out _).mono ?_); rintro e w1 ⟨rfl, hb1⟩); replace HB := Lib.hid (HB.out.trans (hb1.mono HB.out.size)); replace kx := Lib.hid (kx.out.keep hb1); replace ky := Lib.hid (ky.out.keep hb1); replace kz := Lib.hid (kz.out.keep hb1); clear hb1)
        have y0 := ky.out.cell (i := 0) rfl
        have y1 := ky.out.cell (i := 1) rfl
        go_wp2_with fail
        clear y0 y1
        (((with_reducible refine (S2.out _).mono ?_); rintro e w2 ⟨rfl, hb2⟩); replace HB := Lib.hid (HB.out.trans (hb2.mono HB.out.size)); replace kx := Lib.hid (kx.out.keep hb2); replace ky := Lib.hid (ky.out.keep hb2); replace kz := Lib.hid (kz.out.keep hb2); clear hb2)
        have z0 := kz.out.cell (i := 0) rfl
        have z1 := kz.out.cell (i := 1) rfl
        go_wp2_with fail
        clear z0 z1
        (((with_reducible refine (S3.out _).mono ?_); rintro e w3 ⟨rfl, hb3⟩); replace HB := Lib.hid (HB.out.trans (hb3.mono HB.out.size)); replace kx := Lib.hid (kx.out.keep hb3); replace ky := Lib.hid (ky.out.keep hb3); replace kz := Lib.hid (kz.out.keep hb3); clear hb3)
        go_wp2
        go_ret2
        exact ⟨rfl, HB.out⟩
      | true =>
        rw [h3] at S3
        show Calls _ _ _ _ fun e' w' => e' = .returned (.tuple #[.int .i64 (ar a1 a2 b1 b2 c1 c2), .int .i64 0]) ∧ _
        have U1 := Lib.hid (fun W => rsub2_sm h1 h2 W)
        have U2 := Lib.hid (fun W => rsub2_sm h1 h3 W)
        have X := Lib.hid (fun W => rcross2_sm h1 h2 h3 W)
        generalize ar a1 a2 b1 b2 c1 c2 = n at *
        clear h1 h2 h3
        go_enter Try.func25, Try.ntmps25
        go_upto_region 1 with fail
        have hbx := below_new1 w (.cells #[.int .i64 a1, .int .i64 a2] 23)
        have zx : (w.alloc (.cells #[.int .i64 a1, .int .i64 a2] 23)).heap.size = w.heap.size + 1 := by simp
        have HB := Lib.hid hbx
        have kx := Lib.hid (Lok.new w 23 #[.int .i64 a1, .int .i64 a2])
        clear hbx
        generalize w.alloc (.cells #[.int .i64 a1, .int .i64 a2] 23) = Vx at *
        have hby := below_new1 Vx (.cells #[.int .i64 b1, .int .i64 b2] 23)
        replace kx := Lib.hid (kx.out.keep hby)
        have zy : (Vx.alloc (.cells #[.int .i64 b1, .int .i64 b2] 23)).heap.size = Vx.heap.size + 1 := by simp
        replace HB := Lib.hid (HB.out.trans (hby.mono HB.out.size))
        have ky := Lib.hid (Lok.new Vx 23 #[.int .i64 b1, .int .i64 b2])
        clear hby
        generalize Vx.alloc (.cells #[.int .i64 b1, .int .i64 b2] 23) = Vy at *
        rw [zx] at ky zy
        have hbz := below_new1 Vy (.cells #[.int .i64 c1, .int .i64 c2] 23)
        replace kx := Lib.hid (kx.out.keep hbz)
        replace ky := Lib.hid (ky.out.keep hbz)
        have zz : (Vy.alloc (.cells #[.int .i64 c1, .int .i64 c2] 23)).heap.size = Vy.heap.size + 1 := by simp
        replace HB := Lib.hid (HB.out.trans (hbz.mono HB.out.size))
        have kz := Lib.hid (Lok.new Vy 23 #[.int .i64 c1, .int .i64 c2])
        clear hbz
        generalize Vy.alloc (.cells #[.int .i64 c1, .int .i64 c2] 23) = Vz at *
        rw [zy] at kz
        clear zx zy zz
        have x0 := kx.out.cell (i := 0) rfl
        have x1 := kx.out.cell (i := 1) rfl
        go_wp2_with fail
        clear x0 x1
        (((with_reducible refine (S1.out _).mono ?_); rintro e w1 ⟨rfl, hb1⟩); replace HB := Lib.hid (HB.out.trans (hb1.mono HB.out.size)); replace kx := Lib.hid (kx.out.keep hb1); replace ky := Lib.hid (ky.out.keep hb1); replace kz := Lib.hid (kz.out.keep hb1); clear hb1)
        have y0 := ky.out.cell (i := 0) rfl
        have y1 := ky.out.cell (i := 1) rfl
        go_wp2_with fail
        clear y0 y1
        (((with_reducible refine (S2.out _).mono ?_); rintro e w2 ⟨rfl, hb2⟩); replace HB := Lib.hid (HB.out.trans (hb2.mono HB.out.size)); replace kx := Lib.hid (kx.out.keep hb2); replace ky := Lib.hid (ky.out.keep hb2); replace kz := Lib.hid (kz.out.keep hb2); clear hb2)
        have z0 := kz.out.cell (i := 0) rfl
        have z1 := kz.out.cell (i := 1) rfl
        go_wp2_with fail
        clear z0 z1
        (((with_reducible refine (S3.out _).mono ?_); rintro e w3 ⟨rfl, hb3⟩); replace HB := Lib.hid (HB.out.trans (hb3.mono HB.out.size)); replace kx := Lib.hid (kx.out.keep hb3); replace ky := Lib.hid (ky.out.keep hb3); replace kz := Lib.hid (kz.out.keep hb3); clear hb3)
        clear S1 S2 S3
        go_upto_region 3 with fail
        have qx0 : ∀ D : Of (PastV w3), _ := fun D => (kx.out.keep (show Below w3.heap.size w3 D.world from D.holds)).cell (i := 0) rfl
        have qx1 : ∀ D : Of (PastV w3), _ := fun D => (kx.out.keep (show Below w3.heap.size w3 D.world from D.holds)).cell (i := 1) rfl
        have qy0 : ∀ D : Of (PastV w3), _ := fun D => (ky.out.keep (show Below w3.heap.size w3 D.world from D.holds)).cell (i := 0) rfl
        have qy1 : ∀ D : Of (PastV w3), _ := fun D => (ky.out.keep (show Below w3.heap.size w3 D.world from D.holds)).cell (i := 1) rfl
        have qz0 : ∀ D : Of (PastV w3), _ := fun D => (kz.out.keep (show Below w3.heap.size w3 D.world from D.holds)).cell (i := 0) rfl
        have qz1 : ∀ D : Of (PastV w3), _ := fun D => (kz.out.keep (show Below w3.heap.size w3 D.world from D.holds)).cell (i := 1) rfl
        have ST := Lib.hid (pastV_stays w3)
        have ne : Nonempty (Of (PastV w3)) := ⟨⟨w3, Below.refl _ _⟩⟩
        refine wp_region_class (S := PastV w3) (by kernel_rfl) (by kernel_rfl) (Below.refl _ _).drew ?_
        repeat (go_big_quiet_step (first | (go_at_call 47; first | (with_reducible exact class_call ST.out _ (U1.out _)) | (with_reducible exact class_call ST.out _ (U2.out _))) | (go_at_call 46; first | (with_reducible exact class_call ST.out _ (X.out _)))))
        refine wpQuiet_nil ?_
        rintro _ ⟨D, rfl⟩
        have hD : Below w3.heap.size w3 D.world := D.holds
        replace HB := Lib.hid (HB.out.trans (hD.mono HB.out.size))
        replace kx := Lib.hid (kx.out.keep hD)
        replace ky := Lib.hid (ky.out.keep hD)
        replace kz := Lib.hid (kz.out.keep hD)
        generalize D.world = vd at *
        clear qx0 qx1 qy0 qy1 qz0 qz1 ne ST hD
        go_wp2
        go_ret2
        exact ⟨rfl, HB.out⟩
set_option maxRecDepth 100000 in
set_option maxHeartbeats 4000000 in
theorem rsideOf_any (a1 a2 b1 b2 c1 c2 : Int) (t : Bool) (ht : (s2 a1 a2 && s2 b1 b2 && s2 c1 c2) = t) (w : World) :
    Calls Try.prog 67 #[.agg #[.int .i64 a1, .int .i64 a2], .agg #[.int .i64 b1, .int .i64 b2], .agg #[.int .i64 c1, .int .i64 c2]] w fun e' w' => e' = .returned (.tuple #[.int .i64 (ordI (vF t (ar a1 a2 b1 b2 c1 c2)) 0), .int .i64 (rE t)]) ∧ Below w.heap.size w w' := by
  have HB := Lib.hid (Below.refl w.heap.size w)
  have P := Lib.hid (fun W => rarea_any a1 a2 b1 b2 c1 c2 t ht W)
  generalize vF t (ar a1 a2 b1 b2 c1 c2) = n at *
  generalize rE t = e0 at *
  have Q := Lib.hid (fun W => rside_any n W)
  generalize ordI n 0 = s at *
  clear ht
  go_enter Try.func67, Try.ntmps67
  go_upto_region 1 with fail
  have hbx := below_new1 w (.cells #[.int .i64 a1, .int .i64 a2] 23)
  have zx : (w.alloc (.cells #[.int .i64 a1, .int .i64 a2] 23)).heap.size = w.heap.size + 1 := by simp
  have HB := Lib.hid hbx
  have kx := Lib.hid (Lok.new w 23 #[.int .i64 a1, .int .i64 a2])
  clear hbx
  generalize w.alloc (.cells #[.int .i64 a1, .int .i64 a2] 23) = Vx at *
  have hby := below_new1 Vx (.cells #[.int .i64 b1, .int .i64 b2] 23)
  replace kx := Lib.hid (kx.out.keep hby)
  have zy : (Vx.alloc (.cells #[.int .i64 b1, .int .i64 b2] 23)).heap.size = Vx.heap.size + 1 := by simp
  replace HB := Lib.hid (HB.out.trans (hby.mono HB.out.size))
  have ky := Lib.hid (Lok.new Vx 23 #[.int .i64 b1, .int .i64 b2])
  clear hby
  generalize Vx.alloc (.cells #[.int .i64 b1, .int .i64 b2] 23) = Vy at *
  rw [zx] at ky zy
  have hbz := below_new1 Vy (.cells #[.int .i64 c1, .int .i64 c2] 23)
  replace kx := Lib.hid (kx.out.keep hbz)
  replace ky := Lib.hid (ky.out.keep hbz)
  have zz : (Vy.alloc (.cells #[.int .i64 c1, .int .i64 c2] 23)).heap.size = Vy.heap.size + 1 := by simp
  replace HB := Lib.hid (HB.out.trans (hbz.mono HB.out.size))
  have kz := Lib.hid (Lok.new Vy 23 #[.int .i64 c1, .int .i64 c2])
  clear hbz
  generalize Vy.alloc (.cells #[.int .i64 c1, .int .i64 c2] 23) = Vz at *
  rw [zy] at kz
  clear zx zy zz
  have x0 := kx.out.cell (i := 0) rfl
  have x1 := kx.out.cell (i := 1) rfl
  have y0 := ky.out.cell (i := 0) rfl
  have y1 := ky.out.cell (i := 1) rfl
  have z0 := kz.out.cell (i := 0) rfl
  have z1 := kz.out.cell (i := 1) rfl
  go_wp2_with fail
  clear x0 x1 y0 y1 z0 z1
  (((with_reducible refine (P.out _).mono ?_); rintro e w1 ⟨rfl, hb1⟩); replace HB := Lib.hid (HB.out.trans (hb1.mono HB.out.size)); clear hb1)
  go_wp2_with fail
  (((with_reducible refine (Q.out _).mono ?_); rintro e w2 ⟨rfl, hb2⟩); replace HB := Lib.hid (HB.out.trans (hb2.mono HB.out.size)); clear hb2)
  go_wp2
  go_ret2
  exact ⟨rfl, HB.out⟩
end Go.Proofs.Ytllamakemgogaaa
/-
  The reference limewashref10: Right, sides, greatest, parted, In. (gen/MtR.py)
-/
namespace Go.Proofs.Ytllamakemgogaaa
open Go.RowKit

set_option maxRecDepth 100000 in
set_option maxHeartbeats 4000000 in
theorem rright_any (a1 a2 b1 b2 c1 c2 : Int) (w : World) :
    Calls Try.prog 50 #[.agg #[.int .i64 a1, .int .i64 a2, .int .i64 b1, .int .i64 b2, .int .i64 c1, .int .i64 c2]] w fun e' w' => e' = .returned (.bool (rT a1 a2 b1 b2 c1 c2)) ∧ Below w.heap.size w w' := by
  have HB := Lib.hid (Below.refl w.heap.size w)
  obtain ⟨t, ht⟩ : ∃ t, (s2 a1 a2 && s2 b1 b2 && s2 c1 c2) = t := ⟨_, rfl⟩
  have P := Lib.hid (fun W => rarea_any a1 a2 b1 b2 c1 c2 t ht W)
  cases t with
  | false =>
    rw [vF_no, show rE false = 5 from rfl] at P
    rw [show rT a1 a2 b1 b2 c1 c2 = false from by unfold rT; rw [ht]; rfl]
    clear ht
    go_enter Try.func50, Try.ntmps50
    go_upto_region 1 with fail
    have hbx := below_new1 w (.cells #[.int .i64 a1, .int .i64 a2, .int .i64 b1, .int .i64 b2, .int .i64 c1, .int .i64 c2] 24)
    have zx : (w.alloc (.cells #[.int .i64 a1, .int .i64 a2, .int .i64 b1, .int .i64 b2, .int .i64 c1, .int .i64 c2] 24)).heap.size = w.heap.size + 1 := by simp
    have HB := Lib.hid hbx
    have kx := Lib.hid (Lok.new w 24 #[.int .i64 a1, .int .i64 a2, .int .i64 b1, .int .i64 b2, .int .i64 c1, .int .i64 c2])
    clear hbx
    generalize w.alloc (.cells #[.int .i64 a1, .int .i64 a2, .int .i64 b1, .int .i64 b2, .int .i64 c1, .int .i64 c2] 24) = Vx at *
    clear zx
    have x0 := kx.out.cell (i := 0) rfl
    have x1 := kx.out.cell (i := 1) rfl
    have x2 := kx.out.cell (i := 2) rfl
    have x3 := kx.out.cell (i := 3) rfl
    have x4 := kx.out.cell (i := 4) rfl
    have x5 := kx.out.cell (i := 5) rfl
    go_wp2_with fail
    clear x0 x1 x2 x3 x4 x5
    (((with_reducible refine (P.out _).mono ?_); rintro e w1 ⟨rfl, hb1⟩); replace HB := Lib.hid (HB.out.trans (hb1.mono HB.out.size)); clear hb1)
    go_wp2
    go_ret
    exact ⟨rfl, HB.out⟩
  | true =>
    rw [vF_yes, show rE true = 0 from rfl] at P
    have e : rT a1 a2 b1 b2 c1 c2 = (ar a1 a2 b1 b2 c1 c2 != 0) := by unfold rT; rw [ht, Bool.true_and]
    rw [e]
    generalize ar a1 a2 b1 b2 c1 c2 = n at *
    clear ht e
    go_enter Try.func50, Try.ntmps50
    go_upto_region 1 with fail
    have hbx := below_new1 w (.cells #[.int .i64 a1, .int .i64 a2, .int .i64 b1, .int .i64 b2, .int .i64 c1, .int .i64 c2] 24)
    have zx : (w.alloc (.cells #[.int .i64 a1, .int .i64 a2, .int .i64 b1, .int .i64 b2, .int .i64 c1, .int .i64 c2] 24)).heap.size = w.heap.size + 1 := by simp
    have HB := Lib.hid hbx
    have kx := Lib.hid (Lok.new w 24 #[.int .i64 a1, .int .i64 a2, .int .i64 b1, .int .i64 b2, .int .i64 c1, .int .i64 c2])
    clear hbx
    generalize w.alloc (.cells #[.int .i64 a1, .int .i64 a2, .int .i64 b1, .int .i64 b2, .int .i64 c1, .int .i64 c2] 24) = Vx at *
    clear zx
    have x0 := kx.out.cell (i := 0) rfl
    have x1 := kx.out.cell (i := 1) rfl
    have x2 := kx.out.cell (i := 2) rfl
    have x3 := kx.out.cell (i := 3) rfl
    have x4 := kx.out.cell (i := 4) rfl
    have x5 := kx.out.cell (i := 5) rfl
    go_wp2_with fail
    clear x0 x1 x2 x3 x4 x5
    (((with_reducible refine (P.out _).mono ?_); rintro e w1 ⟨rfl, hb1⟩); replace HB := Lib.hid (HB.out.trans (hb1.mono HB.out.size)); clear hb1)
    go_wp2
    go_ret
    exact ⟨rfl, HB.out⟩
set_option maxRecDepth 100000 in
set_option maxHeartbeats 4000000 in
theorem rsides_any (p1 p2 q1 q2 r1 r2 x y : Int) (k : Nat) (hk : k < 3) (hs : (s2 p1 p2 && s2 q1 q2 && s2 r1 r2) = true) (hp : s2 x y = true) (w : World) :
    Calls Try.prog 51 #[.agg #[.int .i64 p1, .int .i64 p2, .int .i64 q1, .int .i64 q2, .int .i64 r1, .int .i64 r2], .int .i64 (k : Int), .agg #[.int .i64 x, .int .i64 y]] w fun e' w' => e' = .returned (.int .i64 (eS (c3 p1 q1 r1 k) (c3 p2 q2 r2 k) (c3 q1 r1 p1 k) (c3 q2 r2 p2 k) (c3 r1 p1 q1 k) (c3 r2 p2 q2 k) x y)) ∧ Below w.heap.size w w' := by
  have HB := Lib.hid (Below.refl w.heap.size w)
  obtain ⟨h1, h2, h3⟩ := small_of3 hs
  clear hs
  rcases (show k = 0 ∨ k = 1 ∨ k = 2 by omega) with rfl | rfl | rfl
  · have S1 := Lib.hid (fun W => rsideOf_any p1 p2 q1 q2 r1 r2 true (by rw [h1, h2, h3]; rfl) W)
    have S2 := Lib.hid (fun W => rsideOf_any p1 p2 q1 q2 x y true (by rw [h1, h2, hp]; rfl) W)
    rw [vF_yes, show rE true = 0 from rfl] at S1 S2
    show Calls _ _ _ _ fun e' w' => e' = .returned (.int .i64 (eS p1 p2 q1 q2 r1 r2 x y)) ∧ _
    unfold eS
    have b1 := ord_bd (ar p1 p2 q1 q2 r1 r2) 0
    have b2 := ord_bd (ar p1 p2 q1 q2 x y) 0
    rw [Int.mul_comm]
    generalize ordI (ar p1 p2 q1 q2 r1 r2) 0 = n1 at *
    generalize ordI (ar p1 p2 q1 q2 x y) 0 = n2 at *
    have wm : IntKind.i64.wrap (n1 * n2) = n1 * n2 := IntWalk.i64_in _ (by have := unit_mul b1 b2; omega)
    clear h1 h2 h3 hp b1 b2 hk
    go_enter Try.func51, Try.ntmps51
    go_upto_region 1 with fail
    have hbt := below_new1 w (.cells #[.int .i64 p1, .int .i64 p2, .int .i64 q1, .int .i64 q2, .int .i64 r1, .int .i64 r2] 24)
    have zt : (w.alloc (.cells #[.int .i64 p1, .int .i64 p2, .int .i64 q1, .int .i64 q2, .int .i64 r1, .int .i64 r2] 24)).heap.size = w.heap.size + 1 := by simp
    have HB := Lib.hid hbt
    have kt := Lib.hid (Lok.new w 24 #[.int .i64 p1, .int .i64 p2, .int .i64 q1, .int .i64 q2, .int .i64 r1, .int .i64 r2])
    clear hbt
    generalize w.alloc (.cells #[.int .i64 p1, .int .i64 p2, .int .i64 q1, .int .i64 q2, .int .i64 r1, .int .i64 r2] 24) = Vt at *
    have hbz := below_new1 Vt (.cells #[.int .i64 x, .int .i64 y] 23)
    replace kt := Lib.hid (kt.out.keep hbz)
    have zz : (Vt.alloc (.cells #[.int .i64 x, .int .i64 y] 23)).heap.size = Vt.heap.size + 1 := by simp
    replace HB := Lib.hid (HB.out.trans (hbz.mono HB.out.size))
    have kz := Lib.hid (Lok.new Vt 23 #[.int .i64 x, .int .i64 y])
    clear hbz
    generalize Vt.alloc (.cells #[.int .i64 x, .int .i64 y] 23) = Vz at *
    rw [zt] at kz
    clear zt zz
    have qt0 : ∀ D : Of (PastV Vz), _ := fun D => (kt.out.keep (show Below Vz.heap.size Vz D.world from D.holds)).cell (i := 0) rfl
    have qt1 : ∀ D : Of (PastV Vz), _ := fun D => (kt.out.keep (show Below Vz.heap.size Vz D.world from D.holds)).cell (i := 1) rfl
    have qt2 : ∀ D : Of (PastV Vz), _ := fun D => (kt.out.keep (show Below Vz.heap.size Vz D.world from D.holds)).cell (i := 2) rfl
    have qt3 : ∀ D : Of (PastV Vz), _ := fun D => (kt.out.keep (show Below Vz.heap.size Vz D.world from D.holds)).cell (i := 3) rfl
    have qt4 : ∀ D : Of (PastV Vz), _ := fun D => (kt.out.keep (show Below Vz.heap.size Vz D.world from D.holds)).cell (i := 4) rfl
    have qt5 : ∀ D : Of (PastV Vz), _ := fun D => (kt.out.keep (show Below Vz.heap.size Vz D.world from D.holds)).cell (i := 5) rfl
    have ST := Lib.hid (pastV_stays Vz)
    have ne : Nonempty (Of (PastV Vz)) := ⟨⟨Vz, Below.refl _ _⟩⟩
    refine wp_region_class (S := PastV Vz) (by kernel_rfl) (by kernel_rfl) (Below.refl _ _).drew ?_
    repeat (go_big_quiet_step (first | (go_at_call 67; first | (with_reducible exact class_call ST.out _ (S1.out _)))))
    refine wpQuiet_nil ?_
    rintro _ ⟨D, rfl⟩
    have hD : Below Vz.heap.size Vz D.world := D.holds
    replace HB := Lib.hid (HB.out.trans (hD.mono HB.out.size))
    replace kt := Lib.hid (kt.out.keep hD)
    replace kz := Lib.hid (kz.out.keep hD)
    generalize D.world = v1 at *
    clear qt0 qt1 qt2 qt3 qt4 qt5 ne ST hD
    go_upto_region 2 with fail
    have qt0 : ∀ D : Of (PastV v1), _ := fun D => (kt.out.keep (show Below v1.heap.size v1 D.world from D.holds)).cell (i := 0) rfl
    have qt1 : ∀ D : Of (PastV v1), _ := fun D => (kt.out.keep (show Below v1.heap.size v1 D.world from D.holds)).cell (i := 1) rfl
    have qt2 : ∀ D : Of (PastV v1), _ := fun D => (kt.out.keep (show Below v1.heap.size v1 D.world from D.holds)).cell (i := 2) rfl
    have qt3 : ∀ D : Of (PastV v1), _ := fun D => (kt.out.keep (show Below v1.heap.size v1 D.world from D.holds)).cell (i := 3) rfl
    have qt4 : ∀ D : Of (PastV v1), _ := fun D => (kt.out.keep (show Below v1.heap.size v1 D.world from D.holds)).cell (i := 4) rfl
    have qt5 : ∀ D : Of (PastV v1), _ := fun D => (kt.out.keep (show Below v1.heap.size v1 D.world from D.holds)).cell (i := 5) rfl
    have qz0 : ∀ D : Of (PastV v1), _ := fun D => (kz.out.keep (show Below v1.heap.size v1 D.world from D.holds)).cell (i := 0) rfl
    have qz1 : ∀ D : Of (PastV v1), _ := fun D => (kz.out.keep (show Below v1.heap.size v1 D.world from D.holds)).cell (i := 1) rfl
    have ST := Lib.hid (pastV_stays v1)
    have ne : Nonempty (Of (PastV v1)) := ⟨⟨v1, Below.refl _ _⟩⟩
    refine wp_region_class (S := PastV v1) (by kernel_rfl) (by kernel_rfl) (Below.refl _ _).drew ?_
    repeat (go_big_quiet_step (first | (go_at_call 67; first | (with_reducible exact class_call ST.out _ (S2.out _)))))
    refine wpQuiet_nil ?_
    rintro _ ⟨D, rfl⟩
    have hD : Below v1.heap.size v1 D.world := D.holds
    replace HB := Lib.hid (HB.out.trans (hD.mono HB.out.size))
    replace kt := Lib.hid (kt.out.keep hD)
    replace kz := Lib.hid (kz.out.keep hD)
    generalize D.world = v2 at *
    clear qt0 qt1 qt2 qt3 qt4 qt5 qz0 qz1 ne ST hD
    go_wp2
    go_ret
    exact ⟨rfl, HB.out⟩
  · have S1 := Lib.hid (fun W => rsideOf_any q1 q2 r1 r2 p1 p2 true (by rw [h2, h3, h1]; rfl) W)
    have S2 := Lib.hid (fun W => rsideOf_any q1 q2 r1 r2 x y true (by rw [h2, h3, hp]; rfl) W)
    rw [vF_yes, show rE true = 0 from rfl] at S1 S2
    show Calls _ _ _ _ fun e' w' => e' = .returned (.int .i64 (eS q1 q2 r1 r2 p1 p2 x y)) ∧ _
    unfold eS
    have b1 := ord_bd (ar q1 q2 r1 r2 p1 p2) 0
    have b2 := ord_bd (ar q1 q2 r1 r2 x y) 0
    rw [Int.mul_comm]
    generalize ordI (ar q1 q2 r1 r2 p1 p2) 0 = n1 at *
    generalize ordI (ar q1 q2 r1 r2 x y) 0 = n2 at *
    have wm : IntKind.i64.wrap (n1 * n2) = n1 * n2 := IntWalk.i64_in _ (by have := unit_mul b1 b2; omega)
    clear h1 h2 h3 hp b1 b2 hk
    go_enter Try.func51, Try.ntmps51
    go_upto_region 1 with fail
    have hbt := below_new1 w (.cells #[.int .i64 p1, .int .i64 p2, .int .i64 q1, .int .i64 q2, .int .i64 r1, .int .i64 r2] 24)
    have zt : (w.alloc (.cells #[.int .i64 p1, .int .i64 p2, .int .i64 q1, .int .i64 q2, .int .i64 r1, .int .i64 r2] 24)).heap.size = w.heap.size + 1 := by simp
    have HB := Lib.hid hbt
    have kt := Lib.hid (Lok.new w 24 #[.int .i64 p1, .int .i64 p2, .int .i64 q1, .int .i64 q2, .int .i64 r1, .int .i64 r2])
    clear hbt
    generalize w.alloc (.cells #[.int .i64 p1, .int .i64 p2, .int .i64 q1, .int .i64 q2, .int .i64 r1, .int .i64 r2] 24) = Vt at *
    have hbz := below_new1 Vt (.cells #[.int .i64 x, .int .i64 y] 23)
    replace kt := Lib.hid (kt.out.keep hbz)
    have zz : (Vt.alloc (.cells #[.int .i64 x, .int .i64 y] 23)).heap.size = Vt.heap.size + 1 := by simp
    replace HB := Lib.hid (HB.out.trans (hbz.mono HB.out.size))
    have kz := Lib.hid (Lok.new Vt 23 #[.int .i64 x, .int .i64 y])
    clear hbz
    generalize Vt.alloc (.cells #[.int .i64 x, .int .i64 y] 23) = Vz at *
    rw [zt] at kz
    clear zt zz
    have qt0 : ∀ D : Of (PastV Vz), _ := fun D => (kt.out.keep (show Below Vz.heap.size Vz D.world from D.holds)).cell (i := 0) rfl
    have qt1 : ∀ D : Of (PastV Vz), _ := fun D => (kt.out.keep (show Below Vz.heap.size Vz D.world from D.holds)).cell (i := 1) rfl
    have qt2 : ∀ D : Of (PastV Vz), _ := fun D => (kt.out.keep (show Below Vz.heap.size Vz D.world from D.holds)).cell (i := 2) rfl
    have qt3 : ∀ D : Of (PastV Vz), _ := fun D => (kt.out.keep (show Below Vz.heap.size Vz D.world from D.holds)).cell (i := 3) rfl
    have qt4 : ∀ D : Of (PastV Vz), _ := fun D => (kt.out.keep (show Below Vz.heap.size Vz D.world from D.holds)).cell (i := 4) rfl
    have qt5 : ∀ D : Of (PastV Vz), _ := fun D => (kt.out.keep (show Below Vz.heap.size Vz D.world from D.holds)).cell (i := 5) rfl
    have ST := Lib.hid (pastV_stays Vz)
    have ne : Nonempty (Of (PastV Vz)) := ⟨⟨Vz, Below.refl _ _⟩⟩
    refine wp_region_class (S := PastV Vz) (by kernel_rfl) (by kernel_rfl) (Below.refl _ _).drew ?_
    repeat (go_big_quiet_step (first | (go_at_call 67; first | (with_reducible exact class_call ST.out _ (S1.out _)))))
    refine wpQuiet_nil ?_
    rintro _ ⟨D, rfl⟩
    have hD : Below Vz.heap.size Vz D.world := D.holds
    replace HB := Lib.hid (HB.out.trans (hD.mono HB.out.size))
    replace kt := Lib.hid (kt.out.keep hD)
    replace kz := Lib.hid (kz.out.keep hD)
    generalize D.world = v1 at *
    clear qt0 qt1 qt2 qt3 qt4 qt5 ne ST hD
    go_upto_region 2 with fail
    have qt0 : ∀ D : Of (PastV v1), _ := fun D => (kt.out.keep (show Below v1.heap.size v1 D.world from D.holds)).cell (i := 0) rfl
    have qt1 : ∀ D : Of (PastV v1), _ := fun D => (kt.out.keep (show Below v1.heap.size v1 D.world from D.holds)).cell (i := 1) rfl
    have qt2 : ∀ D : Of (PastV v1), _ := fun D => (kt.out.keep (show Below v1.heap.size v1 D.world from D.holds)).cell (i := 2) rfl
    have qt3 : ∀ D : Of (PastV v1), _ := fun D => (kt.out.keep (show Below v1.heap.size v1 D.world from D.holds)).cell (i := 3) rfl
    have qt4 : ∀ D : Of (PastV v1), _ := fun D => (kt.out.keep (show Below v1.heap.size v1 D.world from D.holds)).cell (i := 4) rfl
    have qt5 : ∀ D : Of (PastV v1), _ := fun D => (kt.out.keep (show Below v1.heap.size v1 D.world from D.holds)).cell (i := 5) rfl
    have qz0 : ∀ D : Of (PastV v1), _ := fun D => (kz.out.keep (show Below v1.heap.size v1 D.world from D.holds)).cell (i := 0) rfl
    have qz1 : ∀ D : Of (PastV v1), _ := fun D => (kz.out.keep (show Below v1.heap.size v1 D.world from D.holds)).cell (i := 1) rfl
    have ST := Lib.hid (pastV_stays v1)
    have ne : Nonempty (Of (PastV v1)) := ⟨⟨v1, Below.refl _ _⟩⟩
    refine wp_region_class (S := PastV v1) (by kernel_rfl) (by kernel_rfl) (Below.refl _ _).drew ?_
    repeat (go_big_quiet_step (first | (go_at_call 67; first | (with_reducible exact class_call ST.out _ (S2.out _)))))
    refine wpQuiet_nil ?_
    rintro _ ⟨D, rfl⟩
    have hD : Below v1.heap.size v1 D.world := D.holds
    replace HB := Lib.hid (HB.out.trans (hD.mono HB.out.size))
    replace kt := Lib.hid (kt.out.keep hD)
    replace kz := Lib.hid (kz.out.keep hD)
    generalize D.world = v2 at *
    clear qt0 qt1 qt2 qt3 qt4 qt5 qz0 qz1 ne ST hD
    go_wp2
    go_ret
    exact ⟨rfl, HB.out⟩
  · have S1 := Lib.hid (fun W => rsideOf_any r1 r2 p1 p2 q1 q2 true (by rw [h3, h1, h2]; rfl) W)
    have S2 := Lib.hid (fun W => rsideOf_any r1 r2 p1 p2 x y true (by rw [h3, h1, hp]; rfl) W)
    rw [vF_yes, show rE true = 0 from rfl] at S1 S2
    show Calls _ _ _ _ fun e' w' => e' = .returned (.int .i64 (eS r1 r2 p1 p2 q1 q2 x y)) ∧ _
    unfold eS
    have b1 := ord_bd (ar r1 r2 p1 p2 q1 q2) 0
    have b2 := ord_bd (ar r1 r2 p1 p2 x y) 0
    rw [Int.mul_comm]
    generalize ordI (ar r1 r2 p1 p2 q1 q2) 0 = n1 at *
    generalize ordI (ar r1 r2 p1 p2 x y) 0 = n2 at *
    have wm : IntKind.i64.wrap (n1 * n2) = n1 * n2 := IntWalk.i64_in _ (by have := unit_mul b1 b2; omega)
    clear h1 h2 h3 hp b1 b2 hk
    go_enter Try.func51, Try.ntmps51
    go_upto_region 1 with fail
    have hbt := below_new1 w (.cells #[.int .i64 p1, .int .i64 p2, .int .i64 q1, .int .i64 q2, .int .i64 r1, .int .i64 r2] 24)
    have zt : (w.alloc (.cells #[.int .i64 p1, .int .i64 p2, .int .i64 q1, .int .i64 q2, .int .i64 r1, .int .i64 r2] 24)).heap.size = w.heap.size + 1 := by simp
    have HB := Lib.hid hbt
    have kt := Lib.hid (Lok.new w 24 #[.int .i64 p1, .int .i64 p2, .int .i64 q1, .int .i64 q2, .int .i64 r1, .int .i64 r2])
    clear hbt
    generalize w.alloc (.cells #[.int .i64 p1, .int .i64 p2, .int .i64 q1, .int .i64 q2, .int .i64 r1, .int .i64 r2] 24) = Vt at *
    have hbz := below_new1 Vt (.cells #[.int .i64 x, .int .i64 y] 23)
    replace kt := Lib.hid (kt.out.keep hbz)
    have zz : (Vt.alloc (.cells #[.int .i64 x, .int .i64 y] 23)).heap.size = Vt.heap.size + 1 := by simp
    replace HB := Lib.hid (HB.out.trans (hbz.mono HB.out.size))
    have kz := Lib.hid (Lok.new Vt 23 #[.int .i64 x, .int .i64 y])
    clear hbz
    generalize Vt.alloc (.cells #[.int .i64 x, .int .i64 y] 23) = Vz at *
    rw [zt] at kz
    clear zt zz
    have qt0 : ∀ D : Of (PastV Vz), _ := fun D => (kt.out.keep (show Below Vz.heap.size Vz D.world from D.holds)).cell (i := 0) rfl
    have qt1 : ∀ D : Of (PastV Vz), _ := fun D => (kt.out.keep (show Below Vz.heap.size Vz D.world from D.holds)).cell (i := 1) rfl
    have qt2 : ∀ D : Of (PastV Vz), _ := fun D => (kt.out.keep (show Below Vz.heap.size Vz D.world from D.holds)).cell (i := 2) rfl
    have qt3 : ∀ D : Of (PastV Vz), _ := fun D => (kt.out.keep (show Below Vz.heap.size Vz D.world from D.holds)).cell (i := 3) rfl
    have qt4 : ∀ D : Of (PastV Vz), _ := fun D => (kt.out.keep (show Below Vz.heap.size Vz D.world from D.holds)).cell (i := 4) rfl
    have qt5 : ∀ D : Of (PastV Vz), _ := fun D => (kt.out.keep (show Below Vz.heap.size Vz D.world from D.holds)).cell (i := 5) rfl
    have ST := Lib.hid (pastV_stays Vz)
    have ne : Nonempty (Of (PastV Vz)) := ⟨⟨Vz, Below.refl _ _⟩⟩
    refine wp_region_class (S := PastV Vz) (by kernel_rfl) (by kernel_rfl) (Below.refl _ _).drew ?_
    repeat (go_big_quiet_step (first | (go_at_call 67; first | (with_reducible exact class_call ST.out _ (S1.out _)))))
    refine wpQuiet_nil ?_
    rintro _ ⟨D, rfl⟩
    have hD : Below Vz.heap.size Vz D.world := D.holds
    replace HB := Lib.hid (HB.out.trans (hD.mono HB.out.size))
    replace kt := Lib.hid (kt.out.keep hD)
    replace kz := Lib.hid (kz.out.keep hD)
    generalize D.world = v1 at *
    clear qt0 qt1 qt2 qt3 qt4 qt5 ne ST hD
    go_upto_region 2 with fail
    have qt0 : ∀ D : Of (PastV v1), _ := fun D => (kt.out.keep (show Below v1.heap.size v1 D.world from D.holds)).cell (i := 0) rfl
    have qt1 : ∀ D : Of (PastV v1), _ := fun D => (kt.out.keep (show Below v1.heap.size v1 D.world from D.holds)).cell (i := 1) rfl
    have qt2 : ∀ D : Of (PastV v1), _ := fun D => (kt.out.keep (show Below v1.heap.size v1 D.world from D.holds)).cell (i := 2) rfl
    have qt3 : ∀ D : Of (PastV v1), _ := fun D => (kt.out.keep (show Below v1.heap.size v1 D.world from D.holds)).cell (i := 3) rfl
    have qt4 : ∀ D : Of (PastV v1), _ := fun D => (kt.out.keep (show Below v1.heap.size v1 D.world from D.holds)).cell (i := 4) rfl
    have qt5 : ∀ D : Of (PastV v1), _ := fun D => (kt.out.keep (show Below v1.heap.size v1 D.world from D.holds)).cell (i := 5) rfl
    have qz0 : ∀ D : Of (PastV v1), _ := fun D => (kz.out.keep (show Below v1.heap.size v1 D.world from D.holds)).cell (i := 0) rfl
    have qz1 : ∀ D : Of (PastV v1), _ := fun D => (kz.out.keep (show Below v1.heap.size v1 D.world from D.holds)).cell (i := 1) rfl
    have ST := Lib.hid (pastV_stays v1)
    have ne : Nonempty (Of (PastV v1)) := ⟨⟨v1, Below.refl _ _⟩⟩
    refine wp_region_class (S := PastV v1) (by kernel_rfl) (by kernel_rfl) (Below.refl _ _).drew ?_
    repeat (go_big_quiet_step (first | (go_at_call 67; first | (with_reducible exact class_call ST.out _ (S2.out _)))))
    refine wpQuiet_nil ?_
    rintro _ ⟨D, rfl⟩
    have hD : Below v1.heap.size v1 D.world := D.holds
    replace HB := Lib.hid (HB.out.trans (hD.mono HB.out.size))
    replace kt := Lib.hid (kt.out.keep hD)
    replace kz := Lib.hid (kz.out.keep hD)
    generalize D.world = v2 at *
    clear qt0 qt1 qt2 qt3 qt4 qt5 qz0 qz1 ne ST hD
    go_wp2
    go_ret
    exact ⟨rfl, HB.out⟩
end Go.Proofs.Ytllamakemgogaaa
/-
  The reference limewashref10: parted, In, Overlap, Touch. (gen/MtS.py)
-/
namespace Go.Proofs.Ytllamakemgogaaa
open Go.RowKit

/-- Whether an edge's greatest side parts. -/
def ptB (on : Bool) (v : Int) : Bool := decide (v < 0) || (on && decide (v = 0))
def gk (p1 p2 q1 q2 r1 r2 : Int) (F : Nat → Nat → Int) (n k : Nat) : Int := mx (fun i => eS (c3 p1 q1 r1 k) (c3 p2 q2 r2 k) (c3 q1 r1 p1 k) (c3 q2 r2 p2 k) (c3 r1 p1 q1 k) (c3 r2 p2 q2 k) (F i 0) (F i 1)) n
def ptd (on : Bool) (p1 p2 q1 q2 r1 r2 : Int) (F : Nat → Nat → Int) (n : Nat) : Bool := ptB on (gk p1 p2 q1 q2 r1 r2 F n 0) || ptB on (gk p1 p2 q1 q2 r1 r2 F n 1) || ptB on (gk p1 p2 q1 q2 r1 r2 F n 2)
theorem gk_bd (p1 p2 q1 q2 r1 r2 : Int) (F : Nat → Nat → Int) (n k : Nat) : -1 ≤ gk p1 p2 q1 q2 r1 r2 F n k ∧ gk p1 p2 q1 q2 r1 r2 F n k ≤ 1 := mx_bd (fun _ => eS_bd _ _ _ _ _ _ _ _) n
theorem rc_gk (p1 p2 q1 q2 r1 r2 : Int) (F : Nat → Nat → Int) (n : Nat) : rc p1 p2 q1 q2 r1 r2 F n = min (min (min 1 (gk p1 p2 q1 q2 r1 r2 F n 0)) (gk p1 p2 q1 q2 r1 r2 F n 1)) (gk p1 p2 q1 q2 r1 r2 F n 2) := rfl
theorem ptd_on (p1 p2 q1 q2 r1 r2 : Int) (F : Nat → Nat → Int) (n : Nat) : ptd true p1 p2 q1 q2 r1 r2 F n = !(rc p1 p2 q1 q2 r1 r2 F n == 1) := by
  rw [rc_gk]
  unfold ptd
  have h0 := gk_bd p1 p2 q1 q2 r1 r2 F n 0
  have h1 := gk_bd p1 p2 q1 q2 r1 r2 F n 1
  have h2 := gk_bd p1 p2 q1 q2 r1 r2 F n 2
  generalize gk p1 p2 q1 q2 r1 r2 F n 0 = x at *
  generalize gk p1 p2 q1 q2 r1 r2 F n 1 = y at *
  generalize gk p1 p2 q1 q2 r1 r2 F n 2 = z at *
  rcases (show x = -1 ∨ x = 0 ∨ x = 1 by omega) with rfl | rfl | rfl <;> rcases (show y = -1 ∨ y = 0 ∨ y = 1 by omega) with rfl | rfl | rfl <;> rcases (show z = -1 ∨ z = 0 ∨ z = 1 by omega) with rfl | rfl | rfl <;> decide
theorem ptd_off (p1 p2 q1 q2 r1 r2 : Int) (F : Nat → Nat → Int) (n : Nat) : ptd false p1 p2 q1 q2 r1 r2 F n = (rc p1 p2 q1 q2 r1 r2 F n == -1) := by
  rw [rc_gk]
  unfold ptd
  have h0 := gk_bd p1 p2 q1 q2 r1 r2 F n 0
  have h1 := gk_bd p1 p2 q1 q2 r1 r2 F n 1
  have h2 := gk_bd p1 p2 q1 q2 r1 r2 F n 2
  generalize gk p1 p2 q1 q2 r1 r2 F n 0 = x at *
  generalize gk p1 p2 q1 q2 r1 r2 F n 1 = y at *
  generalize gk p1 p2 q1 q2 r1 r2 F n 2 = z at *
  rcases (show x = -1 ∨ x = 0 ∨ x = 1 by omega) with rfl | rfl | rfl <;> rcases (show y = -1 ∨ y = 0 ∨ y = 1 by omega) with rfl | rfl | rfl <;> rcases (show z = -1 ∨ z = 0 ∨ z = 1 by omega) with rfl | rfl | rfl <;> decide
theorem ptd_yes (on : Bool) (p1 p2 q1 q2 r1 r2 : Int) (F : Nat → Nat → Int) (n k : Nat) (hk : k < 3) (h : ptB on (gk p1 p2 q1 q2 r1 r2 F n k) = true) : ptd on p1 p2 q1 q2 r1 r2 F n = true := by
  unfold ptd
  rcases (show k = 0 ∨ k = 1 ∨ k = 2 by omega) with rfl | rfl | rfl <;> rw [h] <;> simp
theorem ptd_no (on : Bool) (p1 p2 q1 q2 r1 r2 : Int) (F : Nat → Nat → Int) (n : Nat) (h : ∀ k, k < 3 → ptB on (gk p1 p2 q1 q2 r1 r2 F n k) = false) : ptd on p1 p2 q1 q2 r1 r2 F n = false := by
  unfold ptd
  rw [h 0 (by omega), h 1 (by omega), h 2 (by omega)]; rfl
theorem r1_eq (a1 a2 b1 b2 c1 c2 x y : Int) : min (min (min 1 ((fun k => eS (c3 a1 b1 c1 k) (c3 a2 b2 c2 k) (c3 b1 c1 a1 k) (c3 b2 c2 a2 k) (c3 c1 a1 b1 k) (c3 c2 a2 b2 k) x y) 0)) ((fun k => eS (c3 a1 b1 c1 k) (c3 a2 b2 c2 k) (c3 b1 c1 a1 k) (c3 b2 c2 a2 k) (c3 c1 a1 b1 k) (c3 c2 a2 b2 k) x y) 1)) ((fun k => eS (c3 a1 b1 c1 k) (c3 a2 b2 c2 k) (c3 b1 c1 a1 k) (c3 b2 c2 a2 k) (c3 c1 a1 b1 k) (c3 c2 a2 b2 k) x y) 2) = r1 a1 a2 b1 b2 c1 c2 x y := by
  show _ = min (min (min 1 (max (-1) (eS a1 a2 b1 b2 c1 c2 x y))) (max (-1) (eS b1 b2 c1 c2 a1 a2 x y))) (max (-1) (eS c1 c2 a1 a2 b1 b2 x y))
  show min (min (min 1 (eS a1 a2 b1 b2 c1 c2 x y)) (eS b1 b2 c1 c2 a1 a2 x y)) (eS c1 c2 a1 a2 b1 b2 x y) = _
  have h0 := eS_bd a1 a2 b1 b2 c1 c2 x y
  have h1 := eS_bd b1 b2 c1 c2 a1 a2 x y
  have h2 := eS_bd c1 c2 a1 a2 b1 b2 x y
  omega
def lk (s : Nat → Int) : Nat → Int
  | 0 => 1
  | k + 1 => min (lk s k) (s k)
theorem lk_bd {s : Nat → Int} (h : ∀ k, -1 ≤ s k ∧ s k ≤ 1) : ∀ k, -1 ≤ lk s k ∧ lk s k ≤ 1
  | 0 => by simp [lk]
  | k + 1 => by have := lk_bd h k; have := h k; unfold lk; omega
set_option maxRecDepth 100000 in
set_option maxHeartbeats 4000000 in
theorem rin_any (x y a1 a2 b1 b2 c1 c2 : Int) (w : World) :
    Calls Try.prog 28 #[.agg #[.int .i64 x, .int .i64 y], .agg #[.int .i64 a1, .int .i64 a2, .int .i64 b1, .int .i64 b2, .int .i64 c1, .int .i64 c2]] w fun e' w' => e' = .returned (.tuple #[.int .i64 (iV (s2 x y) (rT a1 a2 b1 b2 c1 c2) (r1 a1 a2 b1 b2 c1 c2 x y)), .int .i64 (iE (s2 x y) (rT a1 a2 b1 b2 c1 c2))]) ∧ Below w.heap.size w w' := by
  have HB := Lib.hid (Below.refl w.heap.size w)
  have S := Lib.hid (fun W => rsmall2_any x y W)
  have R1 := Lib.hid (fun W => rright_any a1 a2 b1 b2 c1 c2 W)
  cases hs : s2 x y with
  | false =>
    rw [hs] at S
    show Calls _ _ _ _ fun e' w' => e' = .returned (.tuple #[.int .i64 0, .int .i64 5]) ∧ _
    clear hs R1
    go_enter Try.func28, Try.ntmps28
    go_upto_region 1 with fail
    have hbz := below_new1 w (.cells #[.int .i64 x, .int .i64 y] 23)
    have zz : (w.alloc (.cells #[.int .i64 x, .int .i64 y] 23)).heap.size = w.heap.size + 1 := by simp
    have HB := Lib.hid hbz
    have kz := Lib.hid (Lok.new w 23 #[.int .i64 x, .int .i64 y])
    clear hbz
    generalize w.alloc (.cells #[.int .i64 x, .int .i64 y] 23) = Vz at *
    have hbu := below_new1 Vz (.cells #[.int .i64 a1, .int .i64 a2, .int .i64 b1, .int .i64 b2, .int .i64 c1, .int .i64 c2] 24)
    replace kz := Lib.hid (kz.out.keep hbu)
    have zu : (Vz.alloc (.cells #[.int .i64 a1, .int .i64 a2, .int .i64 b1, .int .i64 b2, .int .i64 c1, .int .i64 c2] 24)).heap.size = Vz.heap.size + 1 := by simp
    replace HB := Lib.hid (HB.out.trans (hbu.mono HB.out.size))
    have ku := Lib.hid (Lok.new Vz 24 #[.int .i64 a1, .int .i64 a2, .int .i64 b1, .int .i64 b2, .int .i64 c1, .int .i64 c2])
    clear hbu
    generalize Vz.alloc (.cells #[.int .i64 a1, .int .i64 a2, .int .i64 b1, .int .i64 b2, .int .i64 c1, .int .i64 c2] 24) = Vu at *
    rw [zz] at ku
    clear zz zu
    have z0 := kz.out.cell (i := 0) rfl
    have z1 := kz.out.cell (i := 1) rfl
    go_wp2_with fail
    clear z0 z1
    (((with_reducible refine (S.out _).mono ?_); rintro e w1 ⟨rfl, hb1⟩); replace HB := Lib.hid (HB.out.trans (hb1.mono HB.out.size)); replace kz := Lib.hid (kz.out.keep hb1); replace ku := Lib.hid (ku.out.keep hb1); clear hb1)
    go_wp2
    go_ret2
    exact ⟨rfl, HB.out⟩
  | true =>
    rw [hs] at S
    cases ha : rT a1 a2 b1 b2 c1 c2 with
    | false =>
      rw [ha] at R1
      show Calls _ _ _ _ fun e' w' => e' = .returned (.tuple #[.int .i64 0, .int .i64 1]) ∧ _
      clear hs ha
      go_enter Try.func28, Try.ntmps28
      go_upto_region 1 with fail
      have hbz := below_new1 w (.cells #[.int .i64 x, .int .i64 y] 23)
      have zz : (w.alloc (.cells #[.int .i64 x, .int .i64 y] 23)).heap.size = w.heap.size + 1 := by simp
      have HB := Lib.hid hbz
      have kz := Lib.hid (Lok.new w 23 #[.int .i64 x, .int .i64 y])
      clear hbz
      generalize w.alloc (.cells #[.int .i64 x, .int .i64 y] 23) = Vz at *
      have hbu := below_new1 Vz (.cells #[.int .i64 a1, .int .i64 a2, .int .i64 b1, .int .i64 b2, .int .i64 c1, .int .i64 c2] 24)
      replace kz := Lib.hid (kz.out.keep hbu)
      have zu : (Vz.alloc (.cells #[.int .i64 a1, .int .i64 a2, .int .i64 b1, .int .i64 b2, .int .i64 c1, .int .i64 c2] 24)).heap.size = Vz.heap.size + 1 := by simp
      replace HB := Lib.hid (HB.out.trans (hbu.mono HB.out.size))
      have ku := Lib.hid (Lok.new Vz 24 #[.int .i64 a1, .int .i64 a2, .int .i64 b1, .int .i64 b2, .int .i64 c1, .int .i64 c2])
      clear hbu
      generalize Vz.alloc (.cells #[.int .i64 a1, .int .i64 a2, .int .i64 b1, .int .i64 b2, .int .i64 c1, .int .i64 c2] 24) = Vu at *
      rw [zz] at ku
      clear zz zu
      have z0 := kz.out.cell (i := 0) rfl
      have z1 := kz.out.cell (i := 1) rfl
      go_wp2_with fail
      clear z0 z1
      (((with_reducible refine (S.out _).mono ?_); rintro e w1 ⟨rfl, hb1⟩); replace HB := Lib.hid (HB.out.trans (hb1.mono HB.out.size)); replace kz := Lib.hid (kz.out.keep hb1); replace ku := Lib.hid (ku.out.keep hb1); clear hb1)
      have u0 := ku.out.cell (i := 0) rfl
      have u1 := ku.out.cell (i := 1) rfl
      have u2 := ku.out.cell (i := 2) rfl
      have u3 := ku.out.cell (i := 3) rfl
      have u4 := ku.out.cell (i := 4) rfl
      have u5 := ku.out.cell (i := 5) rfl
      go_wp2_with fail
      clear u0 u1 u2 u3 u4 u5
      (((with_reducible refine (R1.out _).mono ?_); rintro e w2 ⟨rfl, hb2⟩); replace HB := Lib.hid (HB.out.trans (hb2.mono HB.out.size)); replace kz := Lib.hid (kz.out.keep hb2); replace ku := Lib.hid (ku.out.keep hb2); clear hb2)
      go_wp2
      go_ret2
      exact ⟨rfl, HB.out⟩
    | true =>
      rw [ha] at R1
      show Calls _ _ _ _ fun e' w' => e' = .returned (.tuple #[.int .i64 (r1 a1 a2 b1 b2 c1 c2 x y + 1), .int .i64 0]) ∧ _
      have SD := Lib.hid (fun k hk W => rsides_any a1 a2 b1 b2 c1 c2 x y k hk (rT_small ha) hs W)
      have e3 := r1_eq a1 a2 b1 b2 c1 c2 x y
      obtain ⟨sd, hsd⟩ : ∃ sd : Nat → Int, (fun k => eS (c3 a1 b1 c1 k) (c3 a2 b2 c2 k) (c3 b1 c1 a1 k) (c3 b2 c2 a2 k) (c3 c1 a1 b1 k) (c3 c2 a2 b2 k) x y) = sd := ⟨_, rfl⟩
      rw [hsd] at e3
      have hsb : ∀ k, -1 ≤ sd k ∧ sd k ≤ 1 := fun k => by rw [← congrFun hsd k]; exact eS_bd _ _ _ _ _ _ _ _
      have HSB := Lib.hid hsb
      replace e3 : lk sd 3 = r1 a1 a2 b1 b2 c1 c2 x y := e3
      have HS := Lib.hid (fun k => congrFun hsd k)
      rw [← e3]
      clear hs ha e3 hsd hsb
      go_enter Try.func28, Try.ntmps28
      go_upto_region 1 with fail
      have hbz := below_new1 w (.cells #[.int .i64 x, .int .i64 y] 23)
      have zz : (w.alloc (.cells #[.int .i64 x, .int .i64 y] 23)).heap.size = w.heap.size + 1 := by simp
      have HB := Lib.hid hbz
      have kz := Lib.hid (Lok.new w 23 #[.int .i64 x, .int .i64 y])
      clear hbz
      generalize w.alloc (.cells #[.int .i64 x, .int .i64 y] 23) = Vz at *
      have hbu := below_new1 Vz (.cells #[.int .i64 a1, .int .i64 a2, .int .i64 b1, .int .i64 b2, .int .i64 c1, .int .i64 c2] 24)
      replace kz := Lib.hid (kz.out.keep hbu)
      have zu : (Vz.alloc (.cells #[.int .i64 a1, .int .i64 a2, .int .i64 b1, .int .i64 b2, .int .i64 c1, .int .i64 c2] 24)).heap.size = Vz.heap.size + 1 := by simp
      replace HB := Lib.hid (HB.out.trans (hbu.mono HB.out.size))
      have ku := Lib.hid (Lok.new Vz 24 #[.int .i64 a1, .int .i64 a2, .int .i64 b1, .int .i64 b2, .int .i64 c1, .int .i64 c2])
      clear hbu
      generalize Vz.alloc (.cells #[.int .i64 a1, .int .i64 a2, .int .i64 b1, .int .i64 b2, .int .i64 c1, .int .i64 c2] 24) = Vu at *
      rw [zz] at ku
      clear zz zu
      have z0 := kz.out.cell (i := 0) rfl
      have z1 := kz.out.cell (i := 1) rfl
      go_wp2_with fail
      clear z0 z1
      (((with_reducible refine (S.out _).mono ?_); rintro e w1 ⟨rfl, hb1⟩); replace HB := Lib.hid (HB.out.trans (hb1.mono HB.out.size)); replace kz := Lib.hid (kz.out.keep hb1); replace ku := Lib.hid (ku.out.keep hb1); clear hb1)
      have u0 := ku.out.cell (i := 0) rfl
      have u1 := ku.out.cell (i := 1) rfl
      have u2 := ku.out.cell (i := 2) rfl
      have u3 := ku.out.cell (i := 3) rfl
      have u4 := ku.out.cell (i := 4) rfl
      have u5 := ku.out.cell (i := 5) rfl
      go_wp2_with fail
      clear u0 u1 u2 u3 u4 u5
      (((with_reducible refine (R1.out _).mono ?_); rintro e w2 ⟨rfl, hb2⟩); replace HB := Lib.hid (HB.out.trans (hb2.mono HB.out.size)); replace kz := Lib.hid (kz.out.keep hb2); replace ku := Lib.hid (ku.out.keep hb2); clear hb2)
      clear S R1
      have HB0 := HB
      clear HB
      go_wp2_with fail
      go_loopw [7, 6] (fun i g wr => ∃ j : Nat, i = .int .i64 j ∧ j ≤ 3 ∧ g = .int .i64 (lk sd j) ∧ Below w2.heap.size w2 wr) (fun i _ _ => 3 - (intOf i).toNat)
      case atStart => exact ⟨0, rfl, Nat.zero_le _, rfl, Below.refl _ _⟩
      case round =>
        obtain ⟨j, rfl, hj, rfl, hB⟩ := hrel
        replace ku := Lib.hid (ku.out.keep hB)
        replace kz := Lib.hid (kz.out.keep hB)
        have HB := Lib.hid (HB0.out.trans (hB.mono HB0.out.size))
        have HB' := Lib.hid hB
        clear hB
        by_cases hlt : j < 3
        · have CA := Lib.hid (fun W => SD.out j hlt W)
          rw [HS.out j] at CA
          have EM := Lib.hid (show lk sd (j + 1) = min (lk sd j) (sd j) from rfl)
          have bl := lk_bd HSB.out j
          have bs := HSB.out j
          generalize lk sd j = m at *
          generalize sd j = s at *
          have i1 : (j : Int) < 3 := by omega
          have u0 := ku.out.cell (i := 0) rfl
          have u1 := ku.out.cell (i := 1) rfl
          have u2 := ku.out.cell (i := 2) rfl
          have u3 := ku.out.cell (i := 3) rfl
          have u4 := ku.out.cell (i := 4) rfl
          have u5 := ku.out.cell (i := 5) rfl
          have z0 := kz.out.cell (i := 0) rfl
          have z1 := kz.out.cell (i := 1) rfl
          go_wp2_with fail
          clear u0 u1 u2 u3 u4 u5 z0 z1
          (with_reducible refine (CA.out _).mono ?_)
          rintro e w1 ⟨rfl, hb1⟩
          have HC := Lib.hid hb1
          replace HB := Lib.hid (HB.out.trans (hb1.mono HB.out.size))
          clear hb1 CA
          go_wp2
          go_roundw
          case rel => exact ⟨j + 1, by go_num, hlt, by rw [EM.out], HB'.out.trans (HC.out.mono HB'.out.size)⟩
          case measure => simp [intOf]; omega
        · obtain rfl : j = 3 := by omega
          have bl := lk_bd HSB.out 3
          generalize hm : lk sd 3 = m at *
          have HM := Lib.hid hm
          clear hm
          have wm : IntKind.i64.wrap (m + 1) = m + 1 := IntWalk.i64_in _ (by omega)
          clear HS
          go_wp2
          go_ret2
          exact ⟨by rw [HM.out]; rfl, HB.out⟩
end Go.Proofs.Ytllamakemgogaaa
