/-
  The reference limewashref09: Normal, Volume, Facing. (gen/SgS.py)
-/
import Derived.Test.YthjjaojimefbeaaSgR
import Derived.Test.YthjjaojimefbeaaSgD
import Derived.Test.YthjjaojimefbeaaVcAx
namespace Go.Proofs.Ythjjaojimefbeaa
open Go.RowKit

set_option maxRecDepth 100000 in
set_option maxHeartbeats 4000000 in
theorem rnormal_any (a1 a2 a3 b1 b2 b3 c1 c2 c3 : Int) (t : Bool) (ht : (s3 a1 a2 a3 && s3 b1 b2 b3 && s3 c1 c2 c3) = t) (w : World) :
    Calls Try.prog 31 #[.agg #[.int .i64 a1, .int .i64 a2, .int .i64 a3], .agg #[.int .i64 b1, .int .i64 b2, .int .i64 b3], .agg #[.int .i64 c1, .int .i64 c2, .int .i64 c3]] w fun e' w' => e' = .returned (.tuple #[.agg #[.int .i64 (vF t (ar a2 a3 b2 b3 c2 c3)), .int .i64 (vF t (ar a3 a1 b3 b1 c3 c1)), .int .i64 (vF t (ar a1 a2 b1 b2 c1 c2))], .int .i64 (rE t)]) ∧ Below w.heap.size w w' := by
  subst ht
  have HB := Lib.hid (Below.refl w.heap.size w)
  have S1 := Lib.hid (fun W => rsmall3_any a1 a2 a3 W)
  have S2 := Lib.hid (fun W => rsmall3_any b1 b2 b3 W)
  have S3 := Lib.hid (fun W => rsmall3_any c1 c2 c3 W)
  cases h1 : s3 a1 a2 a3 with
  | false =>
    rw [h1] at S1
    show Calls _ _ _ _ fun e' w' => e' = .returned (.tuple #[.agg #[.int .i64 0, .int .i64 0, .int .i64 0], .int .i64 5]) ∧ _
    clear h1
    go_enter Try.func31, Try.ntmps31
    go_upto_region 1 with fail
    have hbx := below_new1 w (.cells #[.int .i64 a1, .int .i64 a2, .int .i64 a3] 23)
    have zx : (w.alloc (.cells #[.int .i64 a1, .int .i64 a2, .int .i64 a3] 23)).heap.size = w.heap.size + 1 := by simp
    have HB := Lib.hid hbx
    have kx := Lib.hid (Lok.new w 23 #[.int .i64 a1, .int .i64 a2, .int .i64 a3])
    clear hbx
    generalize w.alloc (.cells #[.int .i64 a1, .int .i64 a2, .int .i64 a3] 23) = Vx at *
    have hby := below_new1 Vx (.cells #[.int .i64 b1, .int .i64 b2, .int .i64 b3] 23)
    replace kx := Lib.hid (kx.out.keep hby)
    have zy : (Vx.alloc (.cells #[.int .i64 b1, .int .i64 b2, .int .i64 b3] 23)).heap.size = Vx.heap.size + 1 := by simp
    replace HB := Lib.hid (HB.out.trans (hby.mono HB.out.size))
    have ky := Lib.hid (Lok.new Vx 23 #[.int .i64 b1, .int .i64 b2, .int .i64 b3])
    clear hby
    generalize Vx.alloc (.cells #[.int .i64 b1, .int .i64 b2, .int .i64 b3] 23) = Vy at *
    rw [zx] at ky zy
    have hbz := below_new1 Vy (.cells #[.int .i64 c1, .int .i64 c2, .int .i64 c3] 23)
    replace kx := Lib.hid (kx.out.keep hbz)
    replace ky := Lib.hid (ky.out.keep hbz)
    have zz : (Vy.alloc (.cells #[.int .i64 c1, .int .i64 c2, .int .i64 c3] 23)).heap.size = Vy.heap.size + 1 := by simp
    replace HB := Lib.hid (HB.out.trans (hbz.mono HB.out.size))
    have kz := Lib.hid (Lok.new Vy 23 #[.int .i64 c1, .int .i64 c2, .int .i64 c3])
    clear hbz
    generalize Vy.alloc (.cells #[.int .i64 c1, .int .i64 c2, .int .i64 c3] 23) = Vz at *
    rw [zy] at kz zz
    have hbu := below_new1 Vz (.cells #[.int .i64 0, .int .i64 0, .int .i64 0] 23)
    replace kx := Lib.hid (kx.out.keep hbu)
    replace ky := Lib.hid (ky.out.keep hbu)
    replace kz := Lib.hid (kz.out.keep hbu)
    have zu : (Vz.alloc (.cells #[.int .i64 0, .int .i64 0, .int .i64 0] 23)).heap.size = Vz.heap.size + 1 := by simp
    replace HB := Lib.hid (HB.out.trans (hbu.mono HB.out.size))
    have ku := Lib.hid (Lok.new Vz 23 #[.int .i64 0, .int .i64 0, .int .i64 0])
    clear hbu
    generalize Vz.alloc (.cells #[.int .i64 0, .int .i64 0, .int .i64 0] 23) = Vu at *
    rw [zz] at ku
    clear zx zy zz zu
    have x0 := kx.out.cell (i := 0) rfl
    have x1 := kx.out.cell (i := 1) rfl
    have x2 := kx.out.cell (i := 2) rfl
    go_wp2_with fail
    clear x0 x1 x2
    (((with_reducible refine (S1.out _).mono ?_); rintro e w1 ⟨rfl, hb1⟩); replace HB := Lib.hid (HB.out.trans (hb1.mono HB.out.size)); replace kx := Lib.hid (kx.out.keep hb1); replace ky := Lib.hid (ky.out.keep hb1); replace kz := Lib.hid (kz.out.keep hb1); replace ku := Lib.hid (ku.out.keep hb1); clear hb1)
    have u0 := ku.out.cell (i := 0) rfl
    have u1 := ku.out.cell (i := 1) rfl
    have u2 := ku.out.cell (i := 2) rfl
    have fu0 := ku.out.frozen 0
    have fu1 := ku.out.frozen 1
    have fu2 := ku.out.frozen 2
    go_wp2_with fail
    exact bodyPost_ret (v := .tuple #[.agg #[.int .i64 0, .int .i64 0, .int .i64 0], .int .i64 5]) (by simp [results, Try.results31, go_sem, u0, u1, u2]) rfl ⟨rfl, ((HB.out.setCell (by simp <;> omega) _).setCell (by simp <;> omega) _).setCell (by simp <;> omega) _⟩
  | true =>
    rw [h1] at S1
    cases h2 : s3 b1 b2 b3 with
    | false =>
      rw [h2] at S2
      show Calls _ _ _ _ fun e' w' => e' = .returned (.tuple #[.agg #[.int .i64 0, .int .i64 0, .int .i64 0], .int .i64 5]) ∧ _
      clear h1 h2
      go_enter Try.func31, Try.ntmps31
      go_upto_region 1 with fail
      have hbx := below_new1 w (.cells #[.int .i64 a1, .int .i64 a2, .int .i64 a3] 23)
      have zx : (w.alloc (.cells #[.int .i64 a1, .int .i64 a2, .int .i64 a3] 23)).heap.size = w.heap.size + 1 := by simp
      have HB := Lib.hid hbx
      have kx := Lib.hid (Lok.new w 23 #[.int .i64 a1, .int .i64 a2, .int .i64 a3])
      clear hbx
      generalize w.alloc (.cells #[.int .i64 a1, .int .i64 a2, .int .i64 a3] 23) = Vx at *
      have hby := below_new1 Vx (.cells #[.int .i64 b1, .int .i64 b2, .int .i64 b3] 23)
      replace kx := Lib.hid (kx.out.keep hby)
      have zy : (Vx.alloc (.cells #[.int .i64 b1, .int .i64 b2, .int .i64 b3] 23)).heap.size = Vx.heap.size + 1 := by simp
      replace HB := Lib.hid (HB.out.trans (hby.mono HB.out.size))
      have ky := Lib.hid (Lok.new Vx 23 #[.int .i64 b1, .int .i64 b2, .int .i64 b3])
      clear hby
      generalize Vx.alloc (.cells #[.int .i64 b1, .int .i64 b2, .int .i64 b3] 23) = Vy at *
      rw [zx] at ky zy
      have hbz := below_new1 Vy (.cells #[.int .i64 c1, .int .i64 c2, .int .i64 c3] 23)
      replace kx := Lib.hid (kx.out.keep hbz)
      replace ky := Lib.hid (ky.out.keep hbz)
      have zz : (Vy.alloc (.cells #[.int .i64 c1, .int .i64 c2, .int .i64 c3] 23)).heap.size = Vy.heap.size + 1 := by simp
      replace HB := Lib.hid (HB.out.trans (hbz.mono HB.out.size))
      have kz := Lib.hid (Lok.new Vy 23 #[.int .i64 c1, .int .i64 c2, .int .i64 c3])
      clear hbz
      generalize Vy.alloc (.cells #[.int .i64 c1, .int .i64 c2, .int .i64 c3] 23) = Vz at *
      rw [zy] at kz zz
      have hbu := below_new1 Vz (.cells #[.int .i64 0, .int .i64 0, .int .i64 0] 23)
      replace kx := Lib.hid (kx.out.keep hbu)
      replace ky := Lib.hid (ky.out.keep hbu)
      replace kz := Lib.hid (kz.out.keep hbu)
      have zu : (Vz.alloc (.cells #[.int .i64 0, .int .i64 0, .int .i64 0] 23)).heap.size = Vz.heap.size + 1 := by simp
      replace HB := Lib.hid (HB.out.trans (hbu.mono HB.out.size))
      have ku := Lib.hid (Lok.new Vz 23 #[.int .i64 0, .int .i64 0, .int .i64 0])
      clear hbu
      generalize Vz.alloc (.cells #[.int .i64 0, .int .i64 0, .int .i64 0] 23) = Vu at *
      rw [zz] at ku
      clear zx zy zz zu
      have x0 := kx.out.cell (i := 0) rfl
      have x1 := kx.out.cell (i := 1) rfl
      have x2 := kx.out.cell (i := 2) rfl
      go_wp2_with fail
      clear x0 x1 x2
      (((with_reducible refine (S1.out _).mono ?_); rintro e w1 ⟨rfl, hb1⟩); replace HB := Lib.hid (HB.out.trans (hb1.mono HB.out.size)); replace kx := Lib.hid (kx.out.keep hb1); replace ky := Lib.hid (ky.out.keep hb1); replace kz := Lib.hid (kz.out.keep hb1); replace ku := Lib.hid (ku.out.keep hb1); clear hb1)
      have y0 := ky.out.cell (i := 0) rfl
      have y1 := ky.out.cell (i := 1) rfl
      have y2 := ky.out.cell (i := 2) rfl
      go_wp2_with fail
      clear y0 y1 y2
      (((with_reducible refine (S2.out _).mono ?_); rintro e w2 ⟨rfl, hb2⟩); replace HB := Lib.hid (HB.out.trans (hb2.mono HB.out.size)); replace kx := Lib.hid (kx.out.keep hb2); replace ky := Lib.hid (ky.out.keep hb2); replace kz := Lib.hid (kz.out.keep hb2); replace ku := Lib.hid (ku.out.keep hb2); clear hb2)
      have u0 := ku.out.cell (i := 0) rfl
      have u1 := ku.out.cell (i := 1) rfl
      have u2 := ku.out.cell (i := 2) rfl
      have fu0 := ku.out.frozen 0
      have fu1 := ku.out.frozen 1
      have fu2 := ku.out.frozen 2
      go_wp2_with fail
      exact bodyPost_ret (v := .tuple #[.agg #[.int .i64 0, .int .i64 0, .int .i64 0], .int .i64 5]) (by simp [results, Try.results31, go_sem, u0, u1, u2]) rfl ⟨rfl, ((HB.out.setCell (by simp <;> omega) _).setCell (by simp <;> omega) _).setCell (by simp <;> omega) _⟩
    | true =>
      rw [h2] at S2
      cases h3 : s3 c1 c2 c3 with
      | false =>
        rw [h3] at S3
        show Calls _ _ _ _ fun e' w' => e' = .returned (.tuple #[.agg #[.int .i64 0, .int .i64 0, .int .i64 0], .int .i64 5]) ∧ _
        clear h1 h2 h3
        go_enter Try.func31, Try.ntmps31
        go_upto_region 1 with fail
        have hbx := below_new1 w (.cells #[.int .i64 a1, .int .i64 a2, .int .i64 a3] 23)
        have zx : (w.alloc (.cells #[.int .i64 a1, .int .i64 a2, .int .i64 a3] 23)).heap.size = w.heap.size + 1 := by simp
        have HB := Lib.hid hbx
        have kx := Lib.hid (Lok.new w 23 #[.int .i64 a1, .int .i64 a2, .int .i64 a3])
        clear hbx
        generalize w.alloc (.cells #[.int .i64 a1, .int .i64 a2, .int .i64 a3] 23) = Vx at *
        have hby := below_new1 Vx (.cells #[.int .i64 b1, .int .i64 b2, .int .i64 b3] 23)
        replace kx := Lib.hid (kx.out.keep hby)
        have zy : (Vx.alloc (.cells #[.int .i64 b1, .int .i64 b2, .int .i64 b3] 23)).heap.size = Vx.heap.size + 1 := by simp
        replace HB := Lib.hid (HB.out.trans (hby.mono HB.out.size))
        have ky := Lib.hid (Lok.new Vx 23 #[.int .i64 b1, .int .i64 b2, .int .i64 b3])
        clear hby
        generalize Vx.alloc (.cells #[.int .i64 b1, .int .i64 b2, .int .i64 b3] 23) = Vy at *
        rw [zx] at ky zy
        have hbz := below_new1 Vy (.cells #[.int .i64 c1, .int .i64 c2, .int .i64 c3] 23)
        replace kx := Lib.hid (kx.out.keep hbz)
        replace ky := Lib.hid (ky.out.keep hbz)
        have zz : (Vy.alloc (.cells #[.int .i64 c1, .int .i64 c2, .int .i64 c3] 23)).heap.size = Vy.heap.size + 1 := by simp
        replace HB := Lib.hid (HB.out.trans (hbz.mono HB.out.size))
        have kz := Lib.hid (Lok.new Vy 23 #[.int .i64 c1, .int .i64 c2, .int .i64 c3])
        clear hbz
        generalize Vy.alloc (.cells #[.int .i64 c1, .int .i64 c2, .int .i64 c3] 23) = Vz at *
        rw [zy] at kz zz
        have hbu := below_new1 Vz (.cells #[.int .i64 0, .int .i64 0, .int .i64 0] 23)
        replace kx := Lib.hid (kx.out.keep hbu)
        replace ky := Lib.hid (ky.out.keep hbu)
        replace kz := Lib.hid (kz.out.keep hbu)
        have zu : (Vz.alloc (.cells #[.int .i64 0, .int .i64 0, .int .i64 0] 23)).heap.size = Vz.heap.size + 1 := by simp
        replace HB := Lib.hid (HB.out.trans (hbu.mono HB.out.size))
        have ku := Lib.hid (Lok.new Vz 23 #[.int .i64 0, .int .i64 0, .int .i64 0])
        clear hbu
        generalize Vz.alloc (.cells #[.int .i64 0, .int .i64 0, .int .i64 0] 23) = Vu at *
        rw [zz] at ku
        clear zx zy zz zu
        have x0 := kx.out.cell (i := 0) rfl
        have x1 := kx.out.cell (i := 1) rfl
        have x2 := kx.out.cell (i := 2) rfl
        go_wp2_with fail
        clear x0 x1 x2
        (((with_reducible refine (S1.out _).mono ?_); rintro e w1 ⟨rfl, hb1⟩); replace HB := Lib.hid (HB.out.trans (hb1.mono HB.out.size)); replace kx := Lib.hid (kx.out.keep hb1); replace ky := Lib.hid (ky.out.keep hb1); replace kz := Lib.hid (kz.out.keep hb1); replace ku := Lib.hid (ku.out.keep hb1); clear hb1)
        have y0 := ky.out.cell (i := 0) rfl
        have y1 := ky.out.cell (i := 1) rfl
        have y2 := ky.out.cell (i := 2) rfl
        go_wp2_with fail
        clear y0 y1 y2
        (((with_reducible refine (S2.out _).mono ?_); rintro e w2 ⟨rfl, hb2⟩); replace HB := Lib.hid (HB.out.trans (hb2.mono HB.out.size)); replace kx := Lib.hid (kx.out.keep hb2); replace ky := Lib.hid (ky.out.keep hb2); replace kz := Lib.hid (kz.out.keep hb2); replace ku := Lib.hid (ku.out.keep hb2); clear hb2)
        have z0 := kz.out.cell (i := 0) rfl
        have z1 := kz.out.cell (i := 1) rfl
        have z2 := kz.out.cell (i := 2) rfl
        go_wp2_with fail
        clear z0 z1 z2
        (((with_reducible refine (S3.out _).mono ?_); rintro e w3 ⟨rfl, hb3⟩); replace HB := Lib.hid (HB.out.trans (hb3.mono HB.out.size)); replace kx := Lib.hid (kx.out.keep hb3); replace ky := Lib.hid (ky.out.keep hb3); replace kz := Lib.hid (kz.out.keep hb3); replace ku := Lib.hid (ku.out.keep hb3); clear hb3)
        have u0 := ku.out.cell (i := 0) rfl
        have u1 := ku.out.cell (i := 1) rfl
        have u2 := ku.out.cell (i := 2) rfl
        have fu0 := ku.out.frozen 0
        have fu1 := ku.out.frozen 1
        have fu2 := ku.out.frozen 2
        go_wp2_with fail
        exact bodyPost_ret (v := .tuple #[.agg #[.int .i64 0, .int .i64 0, .int .i64 0], .int .i64 5]) (by simp [results, Try.results31, go_sem, u0, u1, u2]) rfl ⟨rfl, ((HB.out.setCell (by simp <;> omega) _).setCell (by simp <;> omega) _).setCell (by simp <;> omega) _⟩
      | true =>
        rw [h3] at S3
        show Calls _ _ _ _ fun e' w' => e' = .returned (.tuple #[.agg #[.int .i64 (ar a2 a3 b2 b3 c2 c3), .int .i64 (ar a3 a1 b3 b1 c3 c1), .int .i64 (ar a1 a2 b1 b2 c1 c2)], .int .i64 0]) ∧ _
        have U1 := Lib.hid (fun W => rsub3_sm h1 h2 W)
        have U2 := Lib.hid (fun W => rsub3_sm h1 h3 W)
        have X := Lib.hid (fun W => rcross3_sm h1 h2 h3 W)
        generalize ar a2 a3 b2 b3 c2 c3 = n1 at *
        generalize ar a3 a1 b3 b1 c3 c1 = n2 at *
        generalize ar a1 a2 b1 b2 c1 c2 = n3 at *
        clear h1 h2 h3
        go_enter Try.func31, Try.ntmps31
        go_upto_region 1 with fail
        have hbx := below_new1 w (.cells #[.int .i64 a1, .int .i64 a2, .int .i64 a3] 23)
        have zx : (w.alloc (.cells #[.int .i64 a1, .int .i64 a2, .int .i64 a3] 23)).heap.size = w.heap.size + 1 := by simp
        have HB := Lib.hid hbx
        have kx := Lib.hid (Lok.new w 23 #[.int .i64 a1, .int .i64 a2, .int .i64 a3])
        clear hbx
        generalize w.alloc (.cells #[.int .i64 a1, .int .i64 a2, .int .i64 a3] 23) = Vx at *
        have hby := below_new1 Vx (.cells #[.int .i64 b1, .int .i64 b2, .int .i64 b3] 23)
        replace kx := Lib.hid (kx.out.keep hby)
        have zy : (Vx.alloc (.cells #[.int .i64 b1, .int .i64 b2, .int .i64 b3] 23)).heap.size = Vx.heap.size + 1 := by simp
        replace HB := Lib.hid (HB.out.trans (hby.mono HB.out.size))
        have ky := Lib.hid (Lok.new Vx 23 #[.int .i64 b1, .int .i64 b2, .int .i64 b3])
        clear hby
        generalize Vx.alloc (.cells #[.int .i64 b1, .int .i64 b2, .int .i64 b3] 23) = Vy at *
        rw [zx] at ky zy
        have hbz := below_new1 Vy (.cells #[.int .i64 c1, .int .i64 c2, .int .i64 c3] 23)
        replace kx := Lib.hid (kx.out.keep hbz)
        replace ky := Lib.hid (ky.out.keep hbz)
        have zz : (Vy.alloc (.cells #[.int .i64 c1, .int .i64 c2, .int .i64 c3] 23)).heap.size = Vy.heap.size + 1 := by simp
        replace HB := Lib.hid (HB.out.trans (hbz.mono HB.out.size))
        have kz := Lib.hid (Lok.new Vy 23 #[.int .i64 c1, .int .i64 c2, .int .i64 c3])
        clear hbz
        generalize Vy.alloc (.cells #[.int .i64 c1, .int .i64 c2, .int .i64 c3] 23) = Vz at *
        rw [zy] at kz zz
        have hbu := below_new1 Vz (.cells #[.int .i64 0, .int .i64 0, .int .i64 0] 23)
        replace kx := Lib.hid (kx.out.keep hbu)
        replace ky := Lib.hid (ky.out.keep hbu)
        replace kz := Lib.hid (kz.out.keep hbu)
        have zu : (Vz.alloc (.cells #[.int .i64 0, .int .i64 0, .int .i64 0] 23)).heap.size = Vz.heap.size + 1 := by simp
        replace HB := Lib.hid (HB.out.trans (hbu.mono HB.out.size))
        have ku := Lib.hid (Lok.new Vz 23 #[.int .i64 0, .int .i64 0, .int .i64 0])
        clear hbu
        generalize Vz.alloc (.cells #[.int .i64 0, .int .i64 0, .int .i64 0] 23) = Vu at *
        rw [zz] at ku
        clear zx zy zz zu
        have x0 := kx.out.cell (i := 0) rfl
        have x1 := kx.out.cell (i := 1) rfl
        have x2 := kx.out.cell (i := 2) rfl
        go_wp2_with fail
        clear x0 x1 x2
        (((with_reducible refine (S1.out _).mono ?_); rintro e w1 ⟨rfl, hb1⟩); replace HB := Lib.hid (HB.out.trans (hb1.mono HB.out.size)); replace kx := Lib.hid (kx.out.keep hb1); replace ky := Lib.hid (ky.out.keep hb1); replace kz := Lib.hid (kz.out.keep hb1); replace ku := Lib.hid (ku.out.keep hb1); clear hb1)
        have y0 := ky.out.cell (i := 0) rfl
        have y1 := ky.out.cell (i := 1) rfl
        have y2 := ky.out.cell (i := 2) rfl
        go_wp2_with fail
        clear y0 y1 y2
        (((with_reducible refine (S2.out _).mono ?_); rintro e w2 ⟨rfl, hb2⟩); replace HB := Lib.hid (HB.out.trans (hb2.mono HB.out.size)); replace kx := Lib.hid (kx.out.keep hb2); replace ky := Lib.hid (ky.out.keep hb2); replace kz := Lib.hid (kz.out.keep hb2); replace ku := Lib.hid (ku.out.keep hb2); clear hb2)
        have z0 := kz.out.cell (i := 0) rfl
        have z1 := kz.out.cell (i := 1) rfl
        have z2 := kz.out.cell (i := 2) rfl
        go_wp2_with fail
        clear z0 z1 z2
        (((with_reducible refine (S3.out _).mono ?_); rintro e w3 ⟨rfl, hb3⟩); replace HB := Lib.hid (HB.out.trans (hb3.mono HB.out.size)); replace kx := Lib.hid (kx.out.keep hb3); replace ky := Lib.hid (ky.out.keep hb3); replace kz := Lib.hid (kz.out.keep hb3); replace ku := Lib.hid (ku.out.keep hb3); clear hb3)
        clear S1 S2 S3
        go_upto_region 3 with fail
        refine wp_region_rel (by kernel_rfl) [24, 25, 26, 27, 28, 29, 30, 31, 32, 33, 8, 9] ?Fr1 ?hFr1
          (fun L u W => Below w3.heap.size w3 W ∧ (L 0 = true → u 25 = .agg #[.int .i64 b1, .int .i64 b2, .int .i64 b3]) ∧ (L 1 = true → u 26 = .agg #[.int .i64 a1, .int .i64 a2, .int .i64 a3]) ∧ (L 2 = true → u 27 = .agg #[.int .i64 (b1 - a1), .int .i64 (b2 - a2), .int .i64 (b3 - a3)]) ∧ (L 3 = true → u 28 = .agg #[.int .i64 c1, .int .i64 c2, .int .i64 c3]) ∧ (L 4 = true → u 29 = .agg #[.int .i64 a1, .int .i64 a2, .int .i64 a3]) ∧ (L 5 = true → u 30 = .agg #[.int .i64 (c1 - a1), .int .i64 (c2 - a2), .int .i64 (c3 - a3)]) ∧ (L 6 = true → u 31 = .tuple #[.agg #[.int .i64 n1, .int .i64 n2, .int .i64 n3], .int .i64 0]) ∧ (L 7 = true → u 24 = .tuple #[.agg #[.int .i64 n1, .int .i64 n2, .int .i64 n3], .int .i64 0]) ∧ (L 8 = true → u 32 = .agg #[.int .i64 n1, .int .i64 n2, .int .i64 n3]) ∧ (L 9 = true → u 33 = .int .i64 0) ∧ (L 12 = true → u 9 = .int .i64 0) ∧ (L 10 = true → ∃ (g : Nat) (x10_0 x10_1 x10_2 : Value), u 8 = .pointer (some ⟨g, 0, none⟩) ∧ w3.heap.size ≤ g ∧ Lok W g 23 #[x10_0, x10_1, x10_2] ∧ (L 11 = true → x10_0 = .int .i64 n1 ∧ x10_1 = .int .i64 n2 ∧ x10_2 = .int .i64 n3)) ∧ (L 11 = true → L 10 = true)) (by kernel_rfl) (by kernel_rfl) 13 rfl ?h0r1 ?stepr1 ?finr1
        case hFr1 => intro u; simp only [putAll, Act.put, List.setIfInBounds_toArray, List.set]; exact rfl
        case h0r1 => intro L u hL; exact ⟨(Below.refl _ _).drew, (fun h => by simp [hL] at h), (fun h => by simp [hL] at h), (fun h => by simp [hL] at h), (fun h => by simp [hL] at h), (fun h => by simp [hL] at h), (fun h => by simp [hL] at h), (fun h => by simp [hL] at h), (fun h => by simp [hL] at h), (fun h => by simp [hL] at h), (fun h => by simp [hL] at h), (fun h => by simp [hL] at h), (fun h => by simp [hL] at h), (fun h => by simp [hL] at h)⟩
        case stepr1 =>
          refine ops_all (ops_cons ?s0r1 (ops_cons ?s1r1 (ops_cons ?s2r1 (ops_cons ?s3r1 (ops_cons ?s4r1 (ops_cons ?s5r1 (ops_cons ?s6r1 (ops_cons ?s7r1 (ops_cons ?s8r1 (ops_cons ?s9r1 (ops_cons ?s10r1 (ops_cons ?s11r1 (ops_cons ?s12r1 (ops_nil))))))))))))))
          case s0r1 =>
            rintro L u W ⟨hB, c0, c1, c2, c3, c4, c5, c6, c7, c8, c9, c12, c10, d11⟩ hf hd K hK
            dsimp only at hK
            have t0 := (ky.out.keep hB).cell (i := 0) rfl
            have t1 := (ky.out.keep hB).cell (i := 1) rfl
            have t2 := (ky.out.keep hB).cell (i := 2) rfl
            clear hd
            go_simp
            refine hK _ _ ?_ (fun h => by cases h)
            intro s hs
            cases hs
            exact ⟨hB, (fun _ => rfl), c1, c2, c3, c4, c5, c6, c7, c8, c9, c12, c10, d11⟩
          case s1r1 =>
            rintro L u W ⟨hB, c0, c1, c2, c3, c4, c5, c6, c7, c8, c9, c12, c10, d11⟩ hf hd K hK
            dsimp only at hK
            have t0 := (kx.out.keep hB).cell (i := 0) rfl
            have t1 := (kx.out.keep hB).cell (i := 1) rfl
            have t2 := (kx.out.keep hB).cell (i := 2) rfl
            clear hd
            go_simp
            refine hK _ _ ?_ (fun h => by cases h)
            intro s hs
            cases hs
            exact ⟨hB, c0, (fun _ => rfl), c2, c3, c4, c5, c6, c7, c8, c9, c12, c10, d11⟩
          case s2r1 =>
            rintro L u W ⟨hB, c0, c1, c2, c3, c4, c5, c6, c7, c8, c9, c12, c10, d11⟩ hf hd K hK
            dsimp only at hK
            have hd0 : L 0 = true := (by first | (refine hd ⟨0, .data⟩ ?_ rfl; simp; done) | (refine hd ⟨0, .guard⟩ ?_ rfl; simp; done) | (refine hd ⟨0, .phase⟩ ?_ rfl; simp; done) | (refine hd ⟨0, .chain⟩ ?_ rfl; simp; done))
            have hd1 : L 1 = true := (by first | (refine hd ⟨1, .data⟩ ?_ rfl; simp; done) | (refine hd ⟨1, .guard⟩ ?_ rfl; simp; done) | (refine hd ⟨1, .phase⟩ ?_ rfl; simp; done) | (refine hd ⟨1, .chain⟩ ?_ rfl; simp; done))
            have e0 := c0 hd0
            rw [e0] at hK
            have e1 := c1 hd1
            rw [e1] at hK
            clear hd0
            clear hd1
            clear hd
            go_simp
            go_wp2_with (go_at_call 37; ((with_reducible refine (U1.out _).mono ?_); rintro e w5 ⟨rfl, hb⟩))
            refine hK _ _ ?_ (fun h => by cases h)
            intro s hs
            cases hs
            exact ⟨hB.trans (hb.mono hB.size), c0, c1, (fun _ => rfl), c3, c4, c5, c6, c7, c8, c9, c12, (fun h => by obtain ⟨g, x10_0, x10_1, x10_2, k1, k2, k3, k4⟩ := c10 h; exact ⟨g, x10_0, x10_1, x10_2, k1, k2, k3.keep hb, k4⟩), d11⟩
          case s3r1 =>
            rintro L u W ⟨hB, c0, c1, c2, c3, c4, c5, c6, c7, c8, c9, c12, c10, d11⟩ hf hd K hK
            dsimp only at hK
            have t0 := (kz.out.keep hB).cell (i := 0) rfl
            have t1 := (kz.out.keep hB).cell (i := 1) rfl
            have t2 := (kz.out.keep hB).cell (i := 2) rfl
            clear hd
            go_simp
            refine hK _ _ ?_ (fun h => by cases h)
            intro s hs
            cases hs
            exact ⟨hB, c0, c1, c2, (fun _ => rfl), c4, c5, c6, c7, c8, c9, c12, c10, d11⟩
          case s4r1 =>
            rintro L u W ⟨hB, c0, c1, c2, c3, c4, c5, c6, c7, c8, c9, c12, c10, d11⟩ hf hd K hK
            dsimp only at hK
            have t0 := (kx.out.keep hB).cell (i := 0) rfl
            have t1 := (kx.out.keep hB).cell (i := 1) rfl
            have t2 := (kx.out.keep hB).cell (i := 2) rfl
            clear hd
            go_simp
            refine hK _ _ ?_ (fun h => by cases h)
            intro s hs
            cases hs
            exact ⟨hB, c0, c1, c2, c3, (fun _ => rfl), c5, c6, c7, c8, c9, c12, c10, d11⟩
          case s5r1 =>
            rintro L u W ⟨hB, c0, c1, c2, c3, c4, c5, c6, c7, c8, c9, c12, c10, d11⟩ hf hd K hK
            dsimp only at hK
            have hd3 : L 3 = true := (by first | (refine hd ⟨3, .data⟩ ?_ rfl; simp; done) | (refine hd ⟨3, .guard⟩ ?_ rfl; simp; done) | (refine hd ⟨3, .phase⟩ ?_ rfl; simp; done) | (refine hd ⟨3, .chain⟩ ?_ rfl; simp; done))
            have hd4 : L 4 = true := (by first | (refine hd ⟨4, .data⟩ ?_ rfl; simp; done) | (refine hd ⟨4, .guard⟩ ?_ rfl; simp; done) | (refine hd ⟨4, .phase⟩ ?_ rfl; simp; done) | (refine hd ⟨4, .chain⟩ ?_ rfl; simp; done))
            have e3 := c3 hd3
            rw [e3] at hK
            have e4 := c4 hd4
            rw [e4] at hK
            clear hd3
            clear hd4
            clear hd
            go_simp
            go_wp2_with (go_at_call 37; ((with_reducible refine (U2.out _).mono ?_); rintro e w5 ⟨rfl, hb⟩))
            refine hK _ _ ?_ (fun h => by cases h)
            intro s hs
            cases hs
            exact ⟨hB.trans (hb.mono hB.size), c0, c1, c2, c3, c4, (fun _ => rfl), c6, c7, c8, c9, c12, (fun h => by obtain ⟨g, x10_0, x10_1, x10_2, k1, k2, k3, k4⟩ := c10 h; exact ⟨g, x10_0, x10_1, x10_2, k1, k2, k3.keep hb, k4⟩), d11⟩
          case s6r1 =>
            rintro L u W ⟨hB, c0, c1, c2, c3, c4, c5, c6, c7, c8, c9, c12, c10, d11⟩ hf hd K hK
            dsimp only at hK
            have hd2 : L 2 = true := (by first | (refine hd ⟨2, .data⟩ ?_ rfl; simp; done) | (refine hd ⟨2, .guard⟩ ?_ rfl; simp; done) | (refine hd ⟨2, .phase⟩ ?_ rfl; simp; done) | (refine hd ⟨2, .chain⟩ ?_ rfl; simp; done))
            have hd5 : L 5 = true := (by first | (refine hd ⟨5, .data⟩ ?_ rfl; simp; done) | (refine hd ⟨5, .guard⟩ ?_ rfl; simp; done) | (refine hd ⟨5, .phase⟩ ?_ rfl; simp; done) | (refine hd ⟨5, .chain⟩ ?_ rfl; simp; done))
            have e2 := c2 hd2
            rw [e2] at hK
            have e5 := c5 hd5
            rw [e5] at hK
            clear hd2
            clear hd5
            clear hd
            go_simp
            go_wp2_with (go_at_call 36; ((with_reducible refine (X.out _).mono ?_); rintro e w5 ⟨rfl, hb⟩))
            refine hK _ _ ?_ (fun h => by cases h)
            intro s hs
            cases hs
            exact ⟨hB.trans (hb.mono hB.size), c0, c1, c2, c3, c4, c5, (fun _ => rfl), c7, c8, c9, c12, (fun h => by obtain ⟨g, x10_0, x10_1, x10_2, k1, k2, k3, k4⟩ := c10 h; exact ⟨g, x10_0, x10_1, x10_2, k1, k2, k3.keep hb, k4⟩), d11⟩
          case s7r1 =>
            rintro L u W ⟨hB, c0, c1, c2, c3, c4, c5, c6, c7, c8, c9, c12, c10, d11⟩ hf hd K hK
            dsimp only at hK
            have hd6 : L 6 = true := (by first | (refine hd ⟨6, .data⟩ ?_ rfl; simp; done) | (refine hd ⟨6, .guard⟩ ?_ rfl; simp; done) | (refine hd ⟨6, .phase⟩ ?_ rfl; simp; done) | (refine hd ⟨6, .chain⟩ ?_ rfl; simp; done))
            have e6 := c6 hd6
            rw [e6] at hK
            clear hd6
            clear hd
            go_simp
            refine hK _ _ ?_ (fun h => by cases h)
            intro s hs
            cases hs
            exact ⟨hB, c0, c1, c2, c3, c4, c5, c6, (fun _ => rfl), c8, c9, c12, c10, d11⟩
          case s8r1 =>
            rintro L u W ⟨hB, c0, c1, c2, c3, c4, c5, c6, c7, c8, c9, c12, c10, d11⟩ hf hd K hK
            dsimp only at hK
            have hd7 : L 7 = true := (by first | (refine hd ⟨7, .data⟩ ?_ rfl; simp; done) | (refine hd ⟨7, .guard⟩ ?_ rfl; simp; done) | (refine hd ⟨7, .phase⟩ ?_ rfl; simp; done) | (refine hd ⟨7, .chain⟩ ?_ rfl; simp; done))
            have e7 := c7 hd7
            rw [e7] at hK
            clear hd7
            clear hd
            go_simp
            refine hK _ _ ?_ (fun h => by cases h)
            intro s hs
            cases hs
            exact ⟨hB, c0, c1, c2, c3, c4, c5, c6, c7, (fun _ => rfl), c9, c12, c10, d11⟩
          case s9r1 =>
            rintro L u W ⟨hB, c0, c1, c2, c3, c4, c5, c6, c7, c8, c9, c12, c10, d11⟩ hf hd K hK
            dsimp only at hK
            have hd7 : L 7 = true := (by first | (refine hd ⟨7, .data⟩ ?_ rfl; simp; done) | (refine hd ⟨7, .guard⟩ ?_ rfl; simp; done) | (refine hd ⟨7, .phase⟩ ?_ rfl; simp; done) | (refine hd ⟨7, .chain⟩ ?_ rfl; simp; done))
            have e7 := c7 hd7
            rw [e7] at hK
            clear hd7
            clear hd
            go_simp
            refine hK _ _ ?_ (fun h => by cases h)
            intro s hs
            cases hs
            exact ⟨hB, c0, c1, c2, c3, c4, c5, c6, c7, c8, (fun _ => rfl), c12, c10, d11⟩
          case s10r1 =>
            rintro L u W ⟨hB, c0, c1, c2, c3, c4, c5, c6, c7, c8, c9, c12, c10, d11⟩ hf hd K hK
            dsimp only at hK
            go_simp
            have hb : Below W.heap.size W (W.alloc (.cells #[.int .i64 0, .int .i64 0, .int .i64 0] 23)) := (Below.refl _ W).alloc (Nat.le_refl _) _
            refine hK _ _ ?_ (fun h => by cases h)
            intro s hs
            cases hs
            exact ⟨hB.trans (hb.mono hB.size), c0, c1, c2, c3, c4, c5, c6, c7, c8, c9, c12, (fun _ => ⟨_, _, _, _, rfl, hB.size, Lok.new _ _ _, fun h => absurd (d11 h) (by rw [hf]; decide)⟩), (fun _ => rfl)⟩
          case s11r1 =>
            rintro L u W ⟨hB, c0, c1, c2, c3, c4, c5, c6, c7, c8, c9, c12, c10, d11⟩ hf hd K hK
            dsimp only at hK
            have hd10 : L 10 = true := hd ⟨10, .data⟩ (by simp) rfl
            have hd8 : L 8 = true := (by first | (refine hd ⟨8, .data⟩ ?_ rfl; simp; done) | (refine hd ⟨8, .guard⟩ ?_ rfl; simp; done) | (refine hd ⟨8, .phase⟩ ?_ rfl; simp; done) | (refine hd ⟨8, .chain⟩ ?_ rfl; simp; done))
            obtain ⟨g, x10_0, x10_1, x10_2, e10, k2, k3, k4⟩ := c10 hd10
            rw [e10] at hK
            have e8 := c8 hd8
            rw [e8] at hK
            have t0 := k3.cell (i := 0) rfl
            have f0 := k3.frozen 0
            have t1 := k3.cell (i := 1) rfl
            have f1 := k3.frozen 1
            have t2 := k3.cell (i := 2) rfl
            have f2 := k3.frozen 2
            have HH := Lib.hid (And.intro trivial trivial)
            clear hd
            have hd10' := Lib.hid hd10
            clear hd10
            have hd8' := Lib.hid hd8
            clear hd8
            go_simp
            have hd10 := hd10'.out
            have hd8 := hd8'.out
            have hlok := ((k3.set (i := 0) (v := .int .i64 n1)).set (i := 1) (v := .int .i64 n2)).set (i := 2) (v := .int .i64 n3)
            refine hK undef _ (fun s h => by cases h) (fun _ => ?_)
            exact ⟨((hB.setCell k2 _).setCell k2 _).setCell k2 _, c0, c1, c2, c3, c4, c5, c6, c7, (fun _ => rfl), c9, c12, (fun _ => ⟨g, _, _, _, rfl, k2, hlok, fun _ => ⟨rfl, rfl, rfl⟩⟩), (fun _ => hd10)⟩
          case s12r1 =>
            rintro L u W ⟨hB, c0, c1, c2, c3, c4, c5, c6, c7, c8, c9, c12, c10, d11⟩ hf hd K hK
            dsimp only at hK
            have hd9 : L 9 = true := (by first | (refine hd ⟨9, .data⟩ ?_ rfl; simp; done) | (refine hd ⟨9, .guard⟩ ?_ rfl; simp; done) | (refine hd ⟨9, .phase⟩ ?_ rfl; simp; done) | (refine hd ⟨9, .chain⟩ ?_ rfl; simp; done))
            have e9 := c9 hd9
            rw [e9] at hK
            clear hd9
            clear hd
            go_simp
            refine hK _ _ ?_ (fun h => by cases h)
            intro s hs
            cases hs
            exact ⟨hB, c0, c1, c2, c3, c4, c5, c6, c7, c8, c9, (fun _ => rfl), c10, d11⟩
        case finr1 =>
          rintro L u W hL ⟨hB, c0, c1, c2, c3, c4, c5, c6, c7, c8, c9, c12, c10, d11⟩
          have e0 := c0 (hL 0 (by decide))
          have e1 := c1 (hL 1 (by decide))
          have e2 := c2 (hL 2 (by decide))
          have e3 := c3 (hL 3 (by decide))
          have e4 := c4 (hL 4 (by decide))
          have e5 := c5 (hL 5 (by decide))
          have e6 := c6 (hL 6 (by decide))
          have e7 := c7 (hL 7 (by decide))
          have e8 := c8 (hL 8 (by decide))
          have e9 := c9 (hL 9 (by decide))
          have e12 := c12 (hL 12 (by decide))
          obtain ⟨g10, x10_0, x10_1, x10_2, e10, hg10, hlok10, hst10⟩ := c10 (hL 10 (by decide))
          obtain ⟨rfl, rfl, rfl⟩ := hst10 (hL 11 (by decide))
          clear hst10
          clear hL c0 c1 c2 c3 c4 c5 c6 c7 c8 c9 c12 c10 d11
          try simp only [e0, e1, e2, e3, e4, e5, e6, e7, e8, e9, e12, e10]
          clear e0 e1 e2 e3 e4 e5 e6 e7 e8 e9 e12 e10
          have z0 := hlok10.cell (i := 0) rfl
          have z1 := hlok10.cell (i := 1) rfl
          have z2 := hlok10.cell (i := 2) rfl
          replace ku := Lib.hid (ku.out.keep hB)
          have u0 := ku.out.cell (i := 0) rfl
          have u1 := ku.out.cell (i := 1) rfl
          have u2 := ku.out.cell (i := 2) rfl
          have fu0 := ku.out.frozen 0
          have fu1 := ku.out.frozen 1
          have fu2 := ku.out.frozen 2
          replace HB := Lib.hid (HB.out.trans (hB.mono HB.out.size))
          go_wp2_with fail
          exact bodyPost_ret (v := .tuple #[.agg #[.int .i64 n1, .int .i64 n2, .int .i64 n3], .int .i64 0]) (by simp [results, Try.results31, go_sem, u0, u1, u2]) rfl ⟨rfl, ((HB.out.setCell (by simp <;> omega) _).setCell (by simp <;> omega) _).setCell (by simp <;> omega) _⟩
set_option maxRecDepth 100000 in
set_option maxHeartbeats 4000000 in
theorem rvolume_any (a1 a2 a3 b1 b2 b3 c1 c2 c3 d1 d2 d3 : Int) (t : Bool) (ht : (s3 a1 a2 a3 && s3 b1 b2 b3 && s3 c1 c2 c3 && s3 d1 d2 d3) = t) (w : World) :
    Calls Try.prog 23 #[.agg #[.int .i64 a1, .int .i64 a2, .int .i64 a3], .agg #[.int .i64 b1, .int .i64 b2, .int .i64 b3], .agg #[.int .i64 c1, .int .i64 c2, .int .i64 c3], .agg #[.int .i64 d1, .int .i64 d2, .int .i64 d3]] w fun e' w' => e' = .returned (.tuple #[.int .i64 (vF t (vo a1 a2 a3 b1 b2 b3 c1 c2 c3 d1 d2 d3)), .int .i64 (rE t)]) ∧ Below w.heap.size w w' := by
  subst ht
  have HB := Lib.hid (Below.refl w.heap.size w)
  have S := Lib.hid (fun W => rsmall3_any d1 d2 d3 W)
  cases h3 : s3 a1 a2 a3 && s3 b1 b2 b3 && s3 c1 c2 c3 with
  | false =>
    have Q := Lib.hid (fun W => rnormal_any a1 a2 a3 b1 b2 b3 c1 c2 c3 false h3 W)
    rw [vF_no, vF_no, vF_no, show rE false = 5 from rfl] at Q
    show Calls _ _ _ _ fun e' w' => e' = .returned (.tuple #[.int .i64 0, .int .i64 5]) ∧ _
    clear h3
    go_enter Try.func23, Try.ntmps23
    go_upto_region 1 with fail
    have hbx := below_new1 w (.cells #[.int .i64 a1, .int .i64 a2, .int .i64 a3] 23)
    have zx : (w.alloc (.cells #[.int .i64 a1, .int .i64 a2, .int .i64 a3] 23)).heap.size = w.heap.size + 1 := by simp
    have HB := Lib.hid hbx
    have kx := Lib.hid (Lok.new w 23 #[.int .i64 a1, .int .i64 a2, .int .i64 a3])
    clear hbx
    generalize w.alloc (.cells #[.int .i64 a1, .int .i64 a2, .int .i64 a3] 23) = Vx at *
    have hby := below_new1 Vx (.cells #[.int .i64 b1, .int .i64 b2, .int .i64 b3] 23)
    replace kx := Lib.hid (kx.out.keep hby)
    have zy : (Vx.alloc (.cells #[.int .i64 b1, .int .i64 b2, .int .i64 b3] 23)).heap.size = Vx.heap.size + 1 := by simp
    replace HB := Lib.hid (HB.out.trans (hby.mono HB.out.size))
    have ky := Lib.hid (Lok.new Vx 23 #[.int .i64 b1, .int .i64 b2, .int .i64 b3])
    clear hby
    generalize Vx.alloc (.cells #[.int .i64 b1, .int .i64 b2, .int .i64 b3] 23) = Vy at *
    rw [zx] at ky zy
    have hbz := below_new1 Vy (.cells #[.int .i64 c1, .int .i64 c2, .int .i64 c3] 23)
    replace kx := Lib.hid (kx.out.keep hbz)
    replace ky := Lib.hid (ky.out.keep hbz)
    have zz : (Vy.alloc (.cells #[.int .i64 c1, .int .i64 c2, .int .i64 c3] 23)).heap.size = Vy.heap.size + 1 := by simp
    replace HB := Lib.hid (HB.out.trans (hbz.mono HB.out.size))
    have kz := Lib.hid (Lok.new Vy 23 #[.int .i64 c1, .int .i64 c2, .int .i64 c3])
    clear hbz
    generalize Vy.alloc (.cells #[.int .i64 c1, .int .i64 c2, .int .i64 c3] 23) = Vz at *
    rw [zy] at kz zz
    have hbu := below_new1 Vz (.cells #[.int .i64 d1, .int .i64 d2, .int .i64 d3] 23)
    replace kx := Lib.hid (kx.out.keep hbu)
    replace ky := Lib.hid (ky.out.keep hbu)
    replace kz := Lib.hid (kz.out.keep hbu)
    have zu : (Vz.alloc (.cells #[.int .i64 d1, .int .i64 d2, .int .i64 d3] 23)).heap.size = Vz.heap.size + 1 := by simp
    replace HB := Lib.hid (HB.out.trans (hbu.mono HB.out.size))
    have ku := Lib.hid (Lok.new Vz 23 #[.int .i64 d1, .int .i64 d2, .int .i64 d3])
    clear hbu
    generalize Vz.alloc (.cells #[.int .i64 d1, .int .i64 d2, .int .i64 d3] 23) = Vu at *
    rw [zz] at ku
    clear zx zy zz zu
    have x0 := kx.out.cell (i := 0) rfl
    have x1 := kx.out.cell (i := 1) rfl
    have x2 := kx.out.cell (i := 2) rfl
    have y0 := ky.out.cell (i := 0) rfl
    have y1 := ky.out.cell (i := 1) rfl
    have y2 := ky.out.cell (i := 2) rfl
    have z0 := kz.out.cell (i := 0) rfl
    have z1 := kz.out.cell (i := 1) rfl
    have z2 := kz.out.cell (i := 2) rfl
    go_wp2_with fail
    clear x0 x1 x2 y0 y1 y2 z0 z1 z2
    ((with_reducible refine (Q.out _).mono ?_); rintro e wn ⟨rfl, hbn⟩)
    replace HB := Lib.hid (HB.out.trans (hbn.mono HB.out.size))
    replace kx := Lib.hid (kx.out.keep hbn)
    replace ky := Lib.hid (ky.out.keep hbn)
    replace kz := Lib.hid (kz.out.keep hbn)
    replace ku := Lib.hid (ku.out.keep hbn)
    clear hbn
    go_upto_region 2 with fail
    have hbn := below_new1 wn (.cells #[.int .i64 0, .int .i64 0, .int .i64 0] 23)
    replace HB := Lib.hid (HB.out.trans (hbn.mono HB.out.size))
    replace kx := Lib.hid (kx.out.keep hbn)
    replace ky := Lib.hid (ky.out.keep hbn)
    replace kz := Lib.hid (kz.out.keep hbn)
    replace ku := Lib.hid (ku.out.keep hbn)
    have kn := Lib.hid (Lok.new wn 23 #[.int .i64 0, .int .i64 0, .int .i64 0])
    clear hbn
    generalize wn.alloc (.cells #[.int .i64 0, .int .i64 0, .int .i64 0] 23) = Vn at *
    generalize wn.heap.size = gn at *
    go_wp2
    go_ret2
    exact ⟨rfl, HB.out⟩
  | true =>
    have Q := Lib.hid (fun W => rnormal_any a1 a2 a3 b1 b2 b3 c1 c2 c3 true h3 W)
    rw [vF_yes, vF_yes, vF_yes, show rE true = 0 from rfl] at Q
    cases h4 : s3 d1 d2 d3 with
    | false =>
      rw [h4] at S
      show Calls _ _ _ _ fun e' w' => e' = .returned (.tuple #[.int .i64 0, .int .i64 5]) ∧ _
      generalize ar a2 a3 b2 b3 c2 c3 = n1 at *
      generalize ar a3 a1 b3 b1 c3 c1 = n2 at *
      generalize ar a1 a2 b1 b2 c1 c2 = n3 at *
      clear h3 h4
      go_enter Try.func23, Try.ntmps23
      go_upto_region 1 with fail
      have hbx := below_new1 w (.cells #[.int .i64 a1, .int .i64 a2, .int .i64 a3] 23)
      have zx : (w.alloc (.cells #[.int .i64 a1, .int .i64 a2, .int .i64 a3] 23)).heap.size = w.heap.size + 1 := by simp
      have HB := Lib.hid hbx
      have kx := Lib.hid (Lok.new w 23 #[.int .i64 a1, .int .i64 a2, .int .i64 a3])
      clear hbx
      generalize w.alloc (.cells #[.int .i64 a1, .int .i64 a2, .int .i64 a3] 23) = Vx at *
      have hby := below_new1 Vx (.cells #[.int .i64 b1, .int .i64 b2, .int .i64 b3] 23)
      replace kx := Lib.hid (kx.out.keep hby)
      have zy : (Vx.alloc (.cells #[.int .i64 b1, .int .i64 b2, .int .i64 b3] 23)).heap.size = Vx.heap.size + 1 := by simp
      replace HB := Lib.hid (HB.out.trans (hby.mono HB.out.size))
      have ky := Lib.hid (Lok.new Vx 23 #[.int .i64 b1, .int .i64 b2, .int .i64 b3])
      clear hby
      generalize Vx.alloc (.cells #[.int .i64 b1, .int .i64 b2, .int .i64 b3] 23) = Vy at *
      rw [zx] at ky zy
      have hbz := below_new1 Vy (.cells #[.int .i64 c1, .int .i64 c2, .int .i64 c3] 23)
      replace kx := Lib.hid (kx.out.keep hbz)
      replace ky := Lib.hid (ky.out.keep hbz)
      have zz : (Vy.alloc (.cells #[.int .i64 c1, .int .i64 c2, .int .i64 c3] 23)).heap.size = Vy.heap.size + 1 := by simp
      replace HB := Lib.hid (HB.out.trans (hbz.mono HB.out.size))
      have kz := Lib.hid (Lok.new Vy 23 #[.int .i64 c1, .int .i64 c2, .int .i64 c3])
      clear hbz
      generalize Vy.alloc (.cells #[.int .i64 c1, .int .i64 c2, .int .i64 c3] 23) = Vz at *
      rw [zy] at kz zz
      have hbu := below_new1 Vz (.cells #[.int .i64 d1, .int .i64 d2, .int .i64 d3] 23)
      replace kx := Lib.hid (kx.out.keep hbu)
      replace ky := Lib.hid (ky.out.keep hbu)
      replace kz := Lib.hid (kz.out.keep hbu)
      have zu : (Vz.alloc (.cells #[.int .i64 d1, .int .i64 d2, .int .i64 d3] 23)).heap.size = Vz.heap.size + 1 := by simp
      replace HB := Lib.hid (HB.out.trans (hbu.mono HB.out.size))
      have ku := Lib.hid (Lok.new Vz 23 #[.int .i64 d1, .int .i64 d2, .int .i64 d3])
      clear hbu
      generalize Vz.alloc (.cells #[.int .i64 d1, .int .i64 d2, .int .i64 d3] 23) = Vu at *
      rw [zz] at ku
      clear zx zy zz zu
      have x0 := kx.out.cell (i := 0) rfl
      have x1 := kx.out.cell (i := 1) rfl
      have x2 := kx.out.cell (i := 2) rfl
      have y0 := ky.out.cell (i := 0) rfl
      have y1 := ky.out.cell (i := 1) rfl
      have y2 := ky.out.cell (i := 2) rfl
      have z0 := kz.out.cell (i := 0) rfl
      have z1 := kz.out.cell (i := 1) rfl
      have z2 := kz.out.cell (i := 2) rfl
      go_wp2_with fail
      clear x0 x1 x2 y0 y1 y2 z0 z1 z2
      ((with_reducible refine (Q.out _).mono ?_); rintro e wn ⟨rfl, hbn⟩)
      replace HB := Lib.hid (HB.out.trans (hbn.mono HB.out.size))
      replace kx := Lib.hid (kx.out.keep hbn)
      replace ky := Lib.hid (ky.out.keep hbn)
      replace kz := Lib.hid (kz.out.keep hbn)
      replace ku := Lib.hid (ku.out.keep hbn)
      clear hbn
      go_upto_region 2 with fail
      have hbn := below_new1 wn (.cells #[.int .i64 n1, .int .i64 n2, .int .i64 n3] 23)
      replace HB := Lib.hid (HB.out.trans (hbn.mono HB.out.size))
      replace kx := Lib.hid (kx.out.keep hbn)
      replace ky := Lib.hid (ky.out.keep hbn)
      replace kz := Lib.hid (kz.out.keep hbn)
      replace ku := Lib.hid (ku.out.keep hbn)
      have kn := Lib.hid (Lok.new wn 23 #[.int .i64 n1, .int .i64 n2, .int .i64 n3])
      clear hbn
      generalize wn.alloc (.cells #[.int .i64 n1, .int .i64 n2, .int .i64 n3] 23) = Vn at *
      generalize wn.heap.size = gn at *
      have u0 := ku.out.cell (i := 0) rfl
      have u1 := ku.out.cell (i := 1) rfl
      have u2 := ku.out.cell (i := 2) rfl
      go_wp2_with fail
      clear u0 u1 u2
      (((with_reducible refine (S.out _).mono ?_); rintro e w2 ⟨rfl, hb2⟩); replace HB := Lib.hid (HB.out.trans (hb2.mono HB.out.size)); replace kx := Lib.hid (kx.out.keep hb2); replace ky := Lib.hid (ky.out.keep hb2); replace kz := Lib.hid (kz.out.keep hb2); replace ku := Lib.hid (ku.out.keep hb2); replace kn := Lib.hid (kn.out.keep hb2); clear hb2)
      go_wp2
      go_ret2
      exact ⟨rfl, HB.out⟩
    | true =>
      rw [h4] at S
      show Calls _ _ _ _ fun e' w' => e' = .returned (.tuple #[.int .i64 (vo a1 a2 a3 b1 b2 b3 c1 c2 c3 d1 d2 d3), .int .i64 0]) ∧ _
      rw [Bool.and_eq_true, Bool.and_eq_true] at h3
      obtain ⟨⟨ha, hb⟩, hc⟩ := h3
      obtain ⟨p1, p2, p3⟩ := vo_wraps ha hb hc h4
      have g4 := s3_iff.1 h4
      have ga := s3_iff.1 ha
      unfold SM at g4 ga
      rw [show vo a1 a2 a3 b1 b2 b3 c1 c2 c3 d1 d2 d3 = ar a2 a3 b2 b3 c2 c3 * (d1 - a1) + ar a3 a1 b3 b1 c3 c1 * (d2 - a2) + ar a1 a2 b1 b2 c1 c2 * (d3 - a3) from rfl]
      generalize ar a2 a3 b2 b3 c2 c3 = n1 at *
      generalize ar a3 a1 b3 b1 c3 c1 = n2 at *
      generalize ar a1 a2 b1 b2 c1 c2 = n3 at *
      have e1 : IntKind.i64.wrap (d1 - a1) = d1 - a1 := IntWalk.i64_in _ (by omega)
      have e4 : IntKind.i64.wrap (n1 * (d1 - a1)) = n1 * (d1 - a1) := IntWalk.i64_in _ (by omega)
      have e2 : IntKind.i64.wrap (d2 - a2) = d2 - a2 := IntWalk.i64_in _ (by omega)
      have e5 : IntKind.i64.wrap (n2 * (d2 - a2)) = n2 * (d2 - a2) := IntWalk.i64_in _ (by omega)
      have e3 : IntKind.i64.wrap (d3 - a3) = d3 - a3 := IntWalk.i64_in _ (by omega)
      have e6 : IntKind.i64.wrap (n3 * (d3 - a3)) = n3 * (d3 - a3) := IntWalk.i64_in _ (by omega)
      have e7 : IntKind.i64.wrap (n1 * (d1 - a1) + n2 * (d2 - a2)) = n1 * (d1 - a1) + n2 * (d2 - a2) := IntWalk.i64_in _ (by omega)
      have e8 : IntKind.i64.wrap (n1 * (d1 - a1) + n2 * (d2 - a2) + n3 * (d3 - a3)) = n1 * (d1 - a1) + n2 * (d2 - a2) + n3 * (d3 - a3) := IntWalk.i64_in _ (by omega)
      clear ha hb hc h4 p1 p2 p3 g4 ga
      go_enter Try.func23, Try.ntmps23
      go_upto_region 1 with fail
      have hbx := below_new1 w (.cells #[.int .i64 a1, .int .i64 a2, .int .i64 a3] 23)
      have zx : (w.alloc (.cells #[.int .i64 a1, .int .i64 a2, .int .i64 a3] 23)).heap.size = w.heap.size + 1 := by simp
      have HB := Lib.hid hbx
      have kx := Lib.hid (Lok.new w 23 #[.int .i64 a1, .int .i64 a2, .int .i64 a3])
      clear hbx
      generalize w.alloc (.cells #[.int .i64 a1, .int .i64 a2, .int .i64 a3] 23) = Vx at *
      have hby := below_new1 Vx (.cells #[.int .i64 b1, .int .i64 b2, .int .i64 b3] 23)
      replace kx := Lib.hid (kx.out.keep hby)
      have zy : (Vx.alloc (.cells #[.int .i64 b1, .int .i64 b2, .int .i64 b3] 23)).heap.size = Vx.heap.size + 1 := by simp
      replace HB := Lib.hid (HB.out.trans (hby.mono HB.out.size))
      have ky := Lib.hid (Lok.new Vx 23 #[.int .i64 b1, .int .i64 b2, .int .i64 b3])
      clear hby
      generalize Vx.alloc (.cells #[.int .i64 b1, .int .i64 b2, .int .i64 b3] 23) = Vy at *
      rw [zx] at ky zy
      have hbz := below_new1 Vy (.cells #[.int .i64 c1, .int .i64 c2, .int .i64 c3] 23)
      replace kx := Lib.hid (kx.out.keep hbz)
      replace ky := Lib.hid (ky.out.keep hbz)
      have zz : (Vy.alloc (.cells #[.int .i64 c1, .int .i64 c2, .int .i64 c3] 23)).heap.size = Vy.heap.size + 1 := by simp
      replace HB := Lib.hid (HB.out.trans (hbz.mono HB.out.size))
      have kz := Lib.hid (Lok.new Vy 23 #[.int .i64 c1, .int .i64 c2, .int .i64 c3])
      clear hbz
      generalize Vy.alloc (.cells #[.int .i64 c1, .int .i64 c2, .int .i64 c3] 23) = Vz at *
      rw [zy] at kz zz
      have hbu := below_new1 Vz (.cells #[.int .i64 d1, .int .i64 d2, .int .i64 d3] 23)
      replace kx := Lib.hid (kx.out.keep hbu)
      replace ky := Lib.hid (ky.out.keep hbu)
      replace kz := Lib.hid (kz.out.keep hbu)
      have zu : (Vz.alloc (.cells #[.int .i64 d1, .int .i64 d2, .int .i64 d3] 23)).heap.size = Vz.heap.size + 1 := by simp
      replace HB := Lib.hid (HB.out.trans (hbu.mono HB.out.size))
      have ku := Lib.hid (Lok.new Vz 23 #[.int .i64 d1, .int .i64 d2, .int .i64 d3])
      clear hbu
      generalize Vz.alloc (.cells #[.int .i64 d1, .int .i64 d2, .int .i64 d3] 23) = Vu at *
      rw [zz] at ku
      clear zx zy zz zu
      have x0 := kx.out.cell (i := 0) rfl
      have x1 := kx.out.cell (i := 1) rfl
      have x2 := kx.out.cell (i := 2) rfl
      have y0 := ky.out.cell (i := 0) rfl
      have y1 := ky.out.cell (i := 1) rfl
      have y2 := ky.out.cell (i := 2) rfl
      have z0 := kz.out.cell (i := 0) rfl
      have z1 := kz.out.cell (i := 1) rfl
      have z2 := kz.out.cell (i := 2) rfl
      go_wp2_with fail
      clear x0 x1 x2 y0 y1 y2 z0 z1 z2
      ((with_reducible refine (Q.out _).mono ?_); rintro e wn ⟨rfl, hbn⟩)
      replace HB := Lib.hid (HB.out.trans (hbn.mono HB.out.size))
      replace kx := Lib.hid (kx.out.keep hbn)
      replace ky := Lib.hid (ky.out.keep hbn)
      replace kz := Lib.hid (kz.out.keep hbn)
      replace ku := Lib.hid (ku.out.keep hbn)
      clear hbn
      go_upto_region 2 with fail
      have hbn := below_new1 wn (.cells #[.int .i64 n1, .int .i64 n2, .int .i64 n3] 23)
      replace HB := Lib.hid (HB.out.trans (hbn.mono HB.out.size))
      replace kx := Lib.hid (kx.out.keep hbn)
      replace ky := Lib.hid (ky.out.keep hbn)
      replace kz := Lib.hid (kz.out.keep hbn)
      replace ku := Lib.hid (ku.out.keep hbn)
      have kn := Lib.hid (Lok.new wn 23 #[.int .i64 n1, .int .i64 n2, .int .i64 n3])
      clear hbn
      generalize wn.alloc (.cells #[.int .i64 n1, .int .i64 n2, .int .i64 n3] 23) = Vn at *
      generalize wn.heap.size = gn at *
      have u0 := ku.out.cell (i := 0) rfl
      have u1 := ku.out.cell (i := 1) rfl
      have u2 := ku.out.cell (i := 2) rfl
      go_wp2_with fail
      clear u0 u1 u2
      (((with_reducible refine (S.out _).mono ?_); rintro e w2 ⟨rfl, hb2⟩); replace HB := Lib.hid (HB.out.trans (hb2.mono HB.out.size)); replace kx := Lib.hid (kx.out.keep hb2); replace ky := Lib.hid (ky.out.keep hb2); replace kz := Lib.hid (kz.out.keep hb2); replace ku := Lib.hid (ku.out.keep hb2); replace kn := Lib.hid (kn.out.keep hb2); clear hb2)
      have n0 := kn.out.cell (i := 0) rfl
      have n1 := kn.out.cell (i := 1) rfl
      have n2 := kn.out.cell (i := 2) rfl
      have u0 := ku.out.cell (i := 0) rfl
      have u1 := ku.out.cell (i := 1) rfl
      have u2 := ku.out.cell (i := 2) rfl
      have x0 := kx.out.cell (i := 0) rfl
      have x1 := kx.out.cell (i := 1) rfl
      have x2 := kx.out.cell (i := 2) rfl
      go_wp2
      go_ret2
      exact ⟨rfl, HB.out⟩
end Go.Proofs.Ythjjaojimefbeaa
