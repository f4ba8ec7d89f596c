/-
  The reference limewashref04: near, Is2, Is3, Sub2, Sub3, Dot, Cross2, Cross3.
-/
import Derived.Test.YthjjaojimefbeaaVcD
import Derived.Test.YthjjaojimefbeaaVcE
namespace Go.Proofs.Ythjjaojimefbeaa
open Go.RowKit

set_option maxRecDepth 100000 in
set_option maxHeartbeats 1000000 in
theorem rnear_any (n : Int) (w : World) :
    Calls Try.prog 43 #[.int .i64 n] w fun e w' => e = .returned (.bool (nB n)) ∧ Below w.heap.size w w' := by
  by_cases h1 : -1048576 ≤ n
  · by_cases h2 : n ≤ 1048576
    · rw [show nB n = true from nB_iff.2 ⟨h1, h2⟩]
      go_enter Try.func43, Try.ntmps43
      go_wp2
      go_ret
      exact ⟨rfl, by (repeat (first | exact Below.refl _ _ | assumption | refine Below.drew ?_ | refine below_drewN ?_ _ | refine Below.setCell ?_ (by first | omega | (simp; done) | (simp; omega)) _ | refine Below.alloc ?_ (by first | omega | (simp; done) | (simp; omega)) _))⟩
    · rw [show nB n = false from nB_not.2 (fun h => h2 h.2)]
      have d2 : decide (n ≤ 1048576) = false := decide_eq_false h2
      go_enter Try.func43, Try.ntmps43
      go_wp2
      go_ret
      exact ⟨rfl, by (repeat (first | exact Below.refl _ _ | assumption | refine Below.drew ?_ | refine below_drewN ?_ _ | refine Below.setCell ?_ (by first | omega | (simp; done) | (simp; omega)) _ | refine Below.alloc ?_ (by first | omega | (simp; done) | (simp; omega)) _))⟩
  · rw [show nB n = false from nB_not.2 (fun h => h1 h.1)]
    have d1 : decide (-1048576 ≤ n) = false := decide_eq_false h1
    go_enter Try.func43, Try.ntmps43
    go_wp2
    go_ret
    exact ⟨rfl, by (repeat (first | exact Below.refl _ _ | assumption | refine Below.drew ?_ | refine below_drewN ?_ _ | refine Below.setCell ?_ (by first | omega | (simp; done) | (simp; omega)) _ | refine Below.alloc ?_ (by first | omega | (simp; done) | (simp; omega)) _))⟩
set_option maxRecDepth 100000 in
set_option maxHeartbeats 1000000 in
theorem ris3_any (a b c : Int) (w : World) :
    Calls Try.prog 41 #[.agg #[.int .i64 a, .int .i64 b, .int .i64 c]] w fun e w' => e = .returned (.bool (n3 a b c)) ∧ Below w.heap.size w w' := by
  have HB := Lib.hid (Below.refl w.heap.size w)
  unfold n3
  have Na := Lib.hid (fun W => rnear_any a W)
  have Nb := Lib.hid (fun W => rnear_any b W)
  have Nc := Lib.hid (fun W => rnear_any c W)
  generalize nB a = pa at *
  generalize nB b = pb at *
  generalize nB c = pc at *
  cases pa with
  | false =>
    go_enter Try.func41, Try.ntmps41
    go_upto_region 1 with fail
    have hbx := below_new1 w (.cells #[.int .i64 a, .int .i64 b, .int .i64 c] 23)
    have zx : (w.alloc (.cells #[.int .i64 a, .int .i64 b, .int .i64 c] 23)).heap.size = w.heap.size + 1 := by simp
    have HB := Lib.hid hbx
    have kx := Lib.hid (Lok.new w 23 #[.int .i64 a, .int .i64 b, .int .i64 c])
    clear hbx
    generalize w.alloc (.cells #[.int .i64 a, .int .i64 b, .int .i64 c] 23) = Vx at *
    clear zx
    have x0 := kx.out.cell (i := 0) rfl
    go_wp2_with fail
    clear x0
    (((with_reducible refine (Na.out _).mono ?_); rintro e w1 ⟨rfl, hb1⟩); replace HB := Lib.hid (HB.out.trans (hb1.mono HB.out.size)); replace kx := Lib.hid (kx.out.keep hb1); clear hb1)
    go_wp2
    go_ret
    exact ⟨rfl, HB.out⟩
  | true =>
    cases pb with
    | false =>
      go_enter Try.func41, Try.ntmps41
      go_upto_region 1 with fail
      have hbx := below_new1 w (.cells #[.int .i64 a, .int .i64 b, .int .i64 c] 23)
      have zx : (w.alloc (.cells #[.int .i64 a, .int .i64 b, .int .i64 c] 23)).heap.size = w.heap.size + 1 := by simp
      have HB := Lib.hid hbx
      have kx := Lib.hid (Lok.new w 23 #[.int .i64 a, .int .i64 b, .int .i64 c])
      clear hbx
      generalize w.alloc (.cells #[.int .i64 a, .int .i64 b, .int .i64 c] 23) = Vx at *
      clear zx
      have x0 := kx.out.cell (i := 0) rfl
      go_wp2_with fail
      clear x0
      (((with_reducible refine (Na.out _).mono ?_); rintro e w1 ⟨rfl, hb1⟩); replace HB := Lib.hid (HB.out.trans (hb1.mono HB.out.size)); replace kx := Lib.hid (kx.out.keep hb1); clear hb1)
      have x1 := kx.out.cell (i := 1) rfl
      go_wp2_with fail
      clear x1
      (((with_reducible refine (Nb.out _).mono ?_); rintro e w2 ⟨rfl, hb2⟩); replace HB := Lib.hid (HB.out.trans (hb2.mono HB.out.size)); replace kx := Lib.hid (kx.out.keep hb2); clear hb2)
      go_wp2
      go_ret
      exact ⟨rfl, HB.out⟩
    | true =>
      cases pc with
      | false =>
        go_enter Try.func41, Try.ntmps41
        go_upto_region 1 with fail
        have hbx := below_new1 w (.cells #[.int .i64 a, .int .i64 b, .int .i64 c] 23)
        have zx : (w.alloc (.cells #[.int .i64 a, .int .i64 b, .int .i64 c] 23)).heap.size = w.heap.size + 1 := by simp
        have HB := Lib.hid hbx
        have kx := Lib.hid (Lok.new w 23 #[.int .i64 a, .int .i64 b, .int .i64 c])
        clear hbx
        generalize w.alloc (.cells #[.int .i64 a, .int .i64 b, .int .i64 c] 23) = Vx at *
        clear zx
        have x0 := kx.out.cell (i := 0) rfl
        go_wp2_with fail
        clear x0
        (((with_reducible refine (Na.out _).mono ?_); rintro e w1 ⟨rfl, hb1⟩); replace HB := Lib.hid (HB.out.trans (hb1.mono HB.out.size)); replace kx := Lib.hid (kx.out.keep hb1); clear hb1)
        have x1 := kx.out.cell (i := 1) rfl
        go_wp2_with fail
        clear x1
        (((with_reducible refine (Nb.out _).mono ?_); rintro e w2 ⟨rfl, hb2⟩); replace HB := Lib.hid (HB.out.trans (hb2.mono HB.out.size)); replace kx := Lib.hid (kx.out.keep hb2); clear hb2)
        have x2 := kx.out.cell (i := 2) rfl
        go_wp2_with fail
        clear x2
        (((with_reducible refine (Nc.out _).mono ?_); rintro e w3 ⟨rfl, hb3⟩); replace HB := Lib.hid (HB.out.trans (hb3.mono HB.out.size)); replace kx := Lib.hid (kx.out.keep hb3); clear hb3)
        go_wp2
        go_ret
        exact ⟨rfl, HB.out⟩
      | true =>
        go_enter Try.func41, Try.ntmps41
        go_upto_region 1 with fail
        have hbx := below_new1 w (.cells #[.int .i64 a, .int .i64 b, .int .i64 c] 23)
        have zx : (w.alloc (.cells #[.int .i64 a, .int .i64 b, .int .i64 c] 23)).heap.size = w.heap.size + 1 := by simp
        have HB := Lib.hid hbx
        have kx := Lib.hid (Lok.new w 23 #[.int .i64 a, .int .i64 b, .int .i64 c])
        clear hbx
        generalize w.alloc (.cells #[.int .i64 a, .int .i64 b, .int .i64 c] 23) = Vx at *
        clear zx
        have x0 := kx.out.cell (i := 0) rfl
        go_wp2_with fail
        clear x0
        (((with_reducible refine (Na.out _).mono ?_); rintro e w1 ⟨rfl, hb1⟩); replace HB := Lib.hid (HB.out.trans (hb1.mono HB.out.size)); replace kx := Lib.hid (kx.out.keep hb1); clear hb1)
        have x1 := kx.out.cell (i := 1) rfl
        go_wp2_with fail
        clear x1
        (((with_reducible refine (Nb.out _).mono ?_); rintro e w2 ⟨rfl, hb2⟩); replace HB := Lib.hid (HB.out.trans (hb2.mono HB.out.size)); replace kx := Lib.hid (kx.out.keep hb2); clear hb2)
        have x2 := kx.out.cell (i := 2) rfl
        go_wp2_with fail
        clear x2
        (((with_reducible refine (Nc.out _).mono ?_); rintro e w3 ⟨rfl, hb3⟩); replace HB := Lib.hid (HB.out.trans (hb3.mono HB.out.size)); replace kx := Lib.hid (kx.out.keep hb3); clear hb3)
        go_wp2
        go_ret
        exact ⟨rfl, HB.out⟩
set_option maxRecDepth 100000 in
set_option maxHeartbeats 1000000 in
theorem rsub3_any (a b c d e f : Int) (w : World) :
    Calls Try.prog 37 #[.agg #[.int .i64 a, .int .i64 b, .int .i64 c], .agg #[.int .i64 d, .int .i64 e, .int .i64 f]] w fun e' w' => e' = .returned (.agg #[.int .i64 (sF (n3 a b c && n3 d e f) a d), .int .i64 (sF (n3 a b c && n3 d e f) b e), .int .i64 (sF (n3 a b c && n3 d e f) c f)]) ∧ Below w.heap.size w w' := by
  have HB := Lib.hid (Below.refl w.heap.size w)
  have I1 := Lib.hid (fun W => ris3_any a b c W)
  have I2 := Lib.hid (fun W => ris3_any d e f W)
  cases h1 : n3 a b c with
  | false =>
    rw [h1] at I1
    show Calls _ _ _ _ fun e' w' => e' = .returned (.agg #[.int .i64 0, .int .i64 0, .int .i64 0]) ∧ _
    clear h1
    go_enter Try.func37, Try.ntmps37
    go_upto_region 1 with fail
    have hbx := below_new1 w (.cells #[.int .i64 a, .int .i64 b, .int .i64 c] 23)
    have zx : (w.alloc (.cells #[.int .i64 a, .int .i64 b, .int .i64 c] 23)).heap.size = w.heap.size + 1 := by simp
    have HB := Lib.hid hbx
    have kx := Lib.hid (Lok.new w 23 #[.int .i64 a, .int .i64 b, .int .i64 c])
    clear hbx
    generalize w.alloc (.cells #[.int .i64 a, .int .i64 b, .int .i64 c] 23) = Vx at *
    have hby := below_new1 Vx (.cells #[.int .i64 d, .int .i64 e, .int .i64 f] 23)
    replace kx := Lib.hid (kx.out.keep hby)
    have zy : (Vx.alloc (.cells #[.int .i64 d, .int .i64 e, .int .i64 f] 23)).heap.size = Vx.heap.size + 1 := by simp
    replace HB := Lib.hid (HB.out.trans (hby.mono HB.out.size))
    have ky := Lib.hid (Lok.new Vx 23 #[.int .i64 d, .int .i64 e, .int .i64 f])
    clear hby
    generalize Vx.alloc (.cells #[.int .i64 d, .int .i64 e, .int .i64 f] 23) = Vy at *
    rw [zx] at ky zy
    have hbz := below_new1 Vy (.cells #[.int .i64 0, .int .i64 0, .int .i64 0] 23)
    replace kx := Lib.hid (kx.out.keep hbz)
    replace ky := Lib.hid (ky.out.keep hbz)
    have zz : (Vy.alloc (.cells #[.int .i64 0, .int .i64 0, .int .i64 0] 23)).heap.size = Vy.heap.size + 1 := by simp
    replace HB := Lib.hid (HB.out.trans (hbz.mono HB.out.size))
    have kz := Lib.hid (Lok.new Vy 23 #[.int .i64 0, .int .i64 0, .int .i64 0])
    clear hbz
    generalize Vy.alloc (.cells #[.int .i64 0, .int .i64 0, .int .i64 0] 23) = Vz at *
    rw [zy] at kz
    clear zx zy zz
    have x0 := kx.out.cell (i := 0) rfl
    have x1 := kx.out.cell (i := 1) rfl
    have x2 := kx.out.cell (i := 2) rfl
    go_wp2_with fail
    clear x0 x1 x2
    (((with_reducible refine (I1.out _).mono ?_); rintro e w1 ⟨rfl, hb1⟩); replace HB := Lib.hid (HB.out.trans (hb1.mono HB.out.size)); replace kx := Lib.hid (kx.out.keep hb1); replace ky := Lib.hid (ky.out.keep hb1); replace kz := Lib.hid (kz.out.keep hb1); clear hb1)
    have z0 := kz.out.cell (i := 0) rfl
    have z1 := kz.out.cell (i := 1) rfl
    have z2 := kz.out.cell (i := 2) rfl
    have f0 := kz.out.frozen 0
    have f1 := kz.out.frozen 1
    have f2 := kz.out.frozen 2
    go_wp2_with fail
    exact bodyPost_ret (v := .agg #[.int .i64 0, .int .i64 0, .int .i64 0]) (by simp [results, Try.results37, go_sem, z0, z1, z2]) rfl ⟨rfl, ((HB.out.setCell (by simp <;> omega) _).setCell (by simp <;> omega) _).setCell (by simp <;> omega) _⟩
  | true =>
    rw [h1] at I1
    cases h2 : n3 d e f with
    | false =>
      rw [h2] at I2
      show Calls _ _ _ _ fun e' w' => e' = .returned (.agg #[.int .i64 0, .int .i64 0, .int .i64 0]) ∧ _
      clear h1 h2
      go_enter Try.func37, Try.ntmps37
      go_upto_region 1 with fail
      have hbx := below_new1 w (.cells #[.int .i64 a, .int .i64 b, .int .i64 c] 23)
      have zx : (w.alloc (.cells #[.int .i64 a, .int .i64 b, .int .i64 c] 23)).heap.size = w.heap.size + 1 := by simp
      have HB := Lib.hid hbx
      have kx := Lib.hid (Lok.new w 23 #[.int .i64 a, .int .i64 b, .int .i64 c])
      clear hbx
      generalize w.alloc (.cells #[.int .i64 a, .int .i64 b, .int .i64 c] 23) = Vx at *
      have hby := below_new1 Vx (.cells #[.int .i64 d, .int .i64 e, .int .i64 f] 23)
      replace kx := Lib.hid (kx.out.keep hby)
      have zy : (Vx.alloc (.cells #[.int .i64 d, .int .i64 e, .int .i64 f] 23)).heap.size = Vx.heap.size + 1 := by simp
      replace HB := Lib.hid (HB.out.trans (hby.mono HB.out.size))
      have ky := Lib.hid (Lok.new Vx 23 #[.int .i64 d, .int .i64 e, .int .i64 f])
      clear hby
      generalize Vx.alloc (.cells #[.int .i64 d, .int .i64 e, .int .i64 f] 23) = Vy at *
      rw [zx] at ky zy
      have hbz := below_new1 Vy (.cells #[.int .i64 0, .int .i64 0, .int .i64 0] 23)
      replace kx := Lib.hid (kx.out.keep hbz)
      replace ky := Lib.hid (ky.out.keep hbz)
      have zz : (Vy.alloc (.cells #[.int .i64 0, .int .i64 0, .int .i64 0] 23)).heap.size = Vy.heap.size + 1 := by simp
      replace HB := Lib.hid (HB.out.trans (hbz.mono HB.out.size))
      have kz := Lib.hid (Lok.new Vy 23 #[.int .i64 0, .int .i64 0, .int .i64 0])
      clear hbz
      generalize Vy.alloc (.cells #[.int .i64 0, .int .i64 0, .int .i64 0] 23) = Vz at *
      rw [zy] at kz
      clear zx zy zz
      have x0 := kx.out.cell (i := 0) rfl
      have x1 := kx.out.cell (i := 1) rfl
      have x2 := kx.out.cell (i := 2) rfl
      go_wp2_with fail
      clear x0 x1 x2
      (((with_reducible refine (I1.out _).mono ?_); rintro e w1 ⟨rfl, hb1⟩); replace HB := Lib.hid (HB.out.trans (hb1.mono HB.out.size)); replace kx := Lib.hid (kx.out.keep hb1); replace ky := Lib.hid (ky.out.keep hb1); replace kz := Lib.hid (kz.out.keep hb1); clear hb1)
      have y0 := ky.out.cell (i := 0) rfl
      have y1 := ky.out.cell (i := 1) rfl
      have y2 := ky.out.cell (i := 2) rfl
      go_wp2_with fail
      clear y0 y1 y2
      (((with_reducible refine (I2.out _).mono ?_); rintro e w2 ⟨rfl, hb2⟩); replace HB := Lib.hid (HB.out.trans (hb2.mono HB.out.size)); replace kx := Lib.hid (kx.out.keep hb2); replace ky := Lib.hid (ky.out.keep hb2); replace kz := Lib.hid (kz.out.keep hb2); clear hb2)
      have z0 := kz.out.cell (i := 0) rfl
      have z1 := kz.out.cell (i := 1) rfl
      have z2 := kz.out.cell (i := 2) rfl
      have f0 := kz.out.frozen 0
      have f1 := kz.out.frozen 1
      have f2 := kz.out.frozen 2
      go_wp2_with fail
      exact bodyPost_ret (v := .agg #[.int .i64 0, .int .i64 0, .int .i64 0]) (by simp [results, Try.results37, go_sem, z0, z1, z2]) rfl ⟨rfl, ((HB.out.setCell (by simp <;> omega) _).setCell (by simp <;> omega) _).setCell (by simp <;> omega) _⟩
    | true =>
      rw [h2] at I2
      show Calls _ _ _ _ fun e' w' => e' = .returned (.agg #[.int .i64 (a - d), .int .i64 (b - e), .int .i64 (c - f)]) ∧ _
      rw [n3_iff] at h1 h2
      have e1 := sub_wrap h1.1 h2.1
      have e2 := sub_wrap h1.2.1 h2.2.1
      have e3 := sub_wrap h1.2.2 h2.2.2
      clear h1 h2
      go_enter Try.func37, Try.ntmps37
      go_upto_region 1 with fail
      have hbx := below_new1 w (.cells #[.int .i64 a, .int .i64 b, .int .i64 c] 23)
      have zx : (w.alloc (.cells #[.int .i64 a, .int .i64 b, .int .i64 c] 23)).heap.size = w.heap.size + 1 := by simp
      have HB := Lib.hid hbx
      have kx := Lib.hid (Lok.new w 23 #[.int .i64 a, .int .i64 b, .int .i64 c])
      clear hbx
      generalize w.alloc (.cells #[.int .i64 a, .int .i64 b, .int .i64 c] 23) = Vx at *
      have hby := below_new1 Vx (.cells #[.int .i64 d, .int .i64 e, .int .i64 f] 23)
      replace kx := Lib.hid (kx.out.keep hby)
      have zy : (Vx.alloc (.cells #[.int .i64 d, .int .i64 e, .int .i64 f] 23)).heap.size = Vx.heap.size + 1 := by simp
      replace HB := Lib.hid (HB.out.trans (hby.mono HB.out.size))
      have ky := Lib.hid (Lok.new Vx 23 #[.int .i64 d, .int .i64 e, .int .i64 f])
      clear hby
      generalize Vx.alloc (.cells #[.int .i64 d, .int .i64 e, .int .i64 f] 23) = Vy at *
      rw [zx] at ky zy
      have hbz := below_new1 Vy (.cells #[.int .i64 0, .int .i64 0, .int .i64 0] 23)
      replace kx := Lib.hid (kx.out.keep hbz)
      replace ky := Lib.hid (ky.out.keep hbz)
      have zz : (Vy.alloc (.cells #[.int .i64 0, .int .i64 0, .int .i64 0] 23)).heap.size = Vy.heap.size + 1 := by simp
      replace HB := Lib.hid (HB.out.trans (hbz.mono HB.out.size))
      have kz := Lib.hid (Lok.new Vy 23 #[.int .i64 0, .int .i64 0, .int .i64 0])
      clear hbz
      generalize Vy.alloc (.cells #[.int .i64 0, .int .i64 0, .int .i64 0] 23) = Vz at *
      rw [zy] at kz
      clear zx zy zz
      have x0 := kx.out.cell (i := 0) rfl
      have x1 := kx.out.cell (i := 1) rfl
      have x2 := kx.out.cell (i := 2) rfl
      go_wp2_with fail
      clear x0 x1 x2
      (((with_reducible refine (I1.out _).mono ?_); rintro e w1 ⟨rfl, hb1⟩); replace HB := Lib.hid (HB.out.trans (hb1.mono HB.out.size)); replace kx := Lib.hid (kx.out.keep hb1); replace ky := Lib.hid (ky.out.keep hb1); replace kz := Lib.hid (kz.out.keep hb1); clear hb1)
      have y0 := ky.out.cell (i := 0) rfl
      have y1 := ky.out.cell (i := 1) rfl
      have y2 := ky.out.cell (i := 2) rfl
      go_wp2_with fail
      clear y0 y1 y2
      (((with_reducible refine (I2.out _).mono ?_); rintro e w2 ⟨rfl, hb2⟩); replace HB := Lib.hid (HB.out.trans (hb2.mono HB.out.size)); replace kx := Lib.hid (kx.out.keep hb2); replace ky := Lib.hid (ky.out.keep hb2); replace kz := Lib.hid (kz.out.keep hb2); clear hb2)
      have x0 := kx.out.cell (i := 0) rfl
      have x1 := kx.out.cell (i := 1) rfl
      have x2 := kx.out.cell (i := 2) rfl
      have y0 := ky.out.cell (i := 0) rfl
      have y1 := ky.out.cell (i := 1) rfl
      have y2 := ky.out.cell (i := 2) rfl
      have z0 := kz.out.cell (i := 0) rfl
      have z1 := kz.out.cell (i := 1) rfl
      have z2 := kz.out.cell (i := 2) rfl
      have f0 := kz.out.frozen 0
      have f1 := kz.out.frozen 1
      have f2 := kz.out.frozen 2
      go_wp2_with fail
      exact bodyPost_ret (v := .agg #[.int .i64 (a - d), .int .i64 (b - e), .int .i64 (c - f)]) (by simp [results, Try.results37, go_sem, z0, z1, z2]) rfl ⟨rfl, ((HB.out.setCell (by simp <;> omega) _).setCell (by simp <;> omega) _).setCell (by simp <;> omega) _⟩
theorem dot_wraps {a b c d e f : Int} (ha : NR a) (hb : NR b) (hc : NR c) (hd : NR d) (he : NR e) (hf : NR f) :
    IntKind.i64.wrap (a * d) = a * d ∧ IntKind.i64.wrap (b * e) = b * e ∧ IntKind.i64.wrap (c * f) = c * f ∧ IntKind.i64.wrap (a * d + b * e) = a * d + b * e ∧ IntKind.i64.wrap (a * d + b * e + c * f) = a * d + b * e + c * f := by
  have p := near_prod ha hd
  have q := near_prod hb he
  have r := near_prod hc hf
  exact ⟨IntWalk.i64_in _ (by omega), IntWalk.i64_in _ (by omega), IntWalk.i64_in _ (by omega), IntWalk.i64_in _ (by omega), IntWalk.i64_in _ (by omega)⟩
set_option maxRecDepth 100000 in
set_option maxHeartbeats 1000000 in
theorem rcross3_any (a b c d e f : Int) (w : World) :
    Calls Try.prog 36 #[.agg #[.int .i64 a, .int .i64 b, .int .i64 c], .agg #[.int .i64 d, .int .i64 e, .int .i64 f]] w fun e' w' => e' = .returned (.tuple #[.agg #[.int .i64 (xF (n3 a b c && n3 d e f) b c e f), .int .i64 (xF (n3 a b c && n3 d e f) c a f d), .int .i64 (xF (n3 a b c && n3 d e f) a b d e)], .int .i64 (rE (n3 a b c && n3 d e f))]) ∧ Below w.heap.size w w' := by
  have HB := Lib.hid (Below.refl w.heap.size w)
  have I1 := Lib.hid (fun W => ris3_any a b c W)
  have I2 := Lib.hid (fun W => ris3_any d e f W)
  cases h1 : n3 a b c with
  | false =>
    rw [h1] at I1
    show Calls _ _ _ _ fun e' w' => e' = .returned (.tuple #[.agg #[.int .i64 0, .int .i64 0, .int .i64 0], .int .i64 5]) ∧ _
    clear h1
    go_enter Try.func36, Try.ntmps36
    go_upto_region 1 with fail
    have hbx := below_new1 w (.cells #[.int .i64 a, .int .i64 b, .int .i64 c] 23)
    have zx : (w.alloc (.cells #[.int .i64 a, .int .i64 b, .int .i64 c] 23)).heap.size = w.heap.size + 1 := by simp
    have HB := Lib.hid hbx
    have kx := Lib.hid (Lok.new w 23 #[.int .i64 a, .int .i64 b, .int .i64 c])
    clear hbx
    generalize w.alloc (.cells #[.int .i64 a, .int .i64 b, .int .i64 c] 23) = Vx at *
    have hby := below_new1 Vx (.cells #[.int .i64 d, .int .i64 e, .int .i64 f] 23)
    replace kx := Lib.hid (kx.out.keep hby)
    have zy : (Vx.alloc (.cells #[.int .i64 d, .int .i64 e, .int .i64 f] 23)).heap.size = Vx.heap.size + 1 := by simp
    replace HB := Lib.hid (HB.out.trans (hby.mono HB.out.size))
    have ky := Lib.hid (Lok.new Vx 23 #[.int .i64 d, .int .i64 e, .int .i64 f])
    clear hby
    generalize Vx.alloc (.cells #[.int .i64 d, .int .i64 e, .int .i64 f] 23) = Vy at *
    rw [zx] at ky zy
    have hbz := below_new1 Vy (.cells #[.int .i64 0, .int .i64 0, .int .i64 0] 23)
    replace kx := Lib.hid (kx.out.keep hbz)
    replace ky := Lib.hid (ky.out.keep hbz)
    have zz : (Vy.alloc (.cells #[.int .i64 0, .int .i64 0, .int .i64 0] 23)).heap.size = Vy.heap.size + 1 := by simp
    replace HB := Lib.hid (HB.out.trans (hbz.mono HB.out.size))
    have kz := Lib.hid (Lok.new Vy 23 #[.int .i64 0, .int .i64 0, .int .i64 0])
    clear hbz
    generalize Vy.alloc (.cells #[.int .i64 0, .int .i64 0, .int .i64 0] 23) = Vz at *
    rw [zy] at kz
    clear zx zy zz
    have x0 := kx.out.cell (i := 0) rfl
    have x1 := kx.out.cell (i := 1) rfl
    have x2 := kx.out.cell (i := 2) rfl
    go_wp2_with fail
    clear x0 x1 x2
    (((with_reducible refine (I1.out _).mono ?_); rintro e w1 ⟨rfl, hb1⟩); replace HB := Lib.hid (HB.out.trans (hb1.mono HB.out.size)); replace kx := Lib.hid (kx.out.keep hb1); replace ky := Lib.hid (ky.out.keep hb1); replace kz := Lib.hid (kz.out.keep hb1); clear hb1)
    have z0 := kz.out.cell (i := 0) rfl
    have z1 := kz.out.cell (i := 1) rfl
    have z2 := kz.out.cell (i := 2) rfl
    have f0 := kz.out.frozen 0
    have f1 := kz.out.frozen 1
    have f2 := kz.out.frozen 2
    go_wp2_with fail
    exact bodyPost_ret (v := .tuple #[.agg #[.int .i64 0, .int .i64 0, .int .i64 0], .int .i64 5]) (by simp [results, Try.results36, go_sem, z0, z1, z2]) rfl ⟨rfl, ((HB.out.setCell (by simp <;> omega) _).setCell (by simp <;> omega) _).setCell (by simp <;> omega) _⟩
  | true =>
    rw [h1] at I1
    cases h2 : n3 d e f with
    | false =>
      rw [h2] at I2
      show Calls _ _ _ _ fun e' w' => e' = .returned (.tuple #[.agg #[.int .i64 0, .int .i64 0, .int .i64 0], .int .i64 5]) ∧ _
      clear h1 h2
      go_enter Try.func36, Try.ntmps36
      go_upto_region 1 with fail
      have hbx := below_new1 w (.cells #[.int .i64 a, .int .i64 b, .int .i64 c] 23)
      have zx : (w.alloc (.cells #[.int .i64 a, .int .i64 b, .int .i64 c] 23)).heap.size = w.heap.size + 1 := by simp
      have HB := Lib.hid hbx
      have kx := Lib.hid (Lok.new w 23 #[.int .i64 a, .int .i64 b, .int .i64 c])
      clear hbx
      generalize w.alloc (.cells #[.int .i64 a, .int .i64 b, .int .i64 c] 23) = Vx at *
      have hby := below_new1 Vx (.cells #[.int .i64 d, .int .i64 e, .int .i64 f] 23)
      replace kx := Lib.hid (kx.out.keep hby)
      have zy : (Vx.alloc (.cells #[.int .i64 d, .int .i64 e, .int .i64 f] 23)).heap.size = Vx.heap.size + 1 := by simp
      replace HB := Lib.hid (HB.out.trans (hby.mono HB.out.size))
      have ky := Lib.hid (Lok.new Vx 23 #[.int .i64 d, .int .i64 e, .int .i64 f])
      clear hby
      generalize Vx.alloc (.cells #[.int .i64 d, .int .i64 e, .int .i64 f] 23) = Vy at *
      rw [zx] at ky zy
      have hbz := below_new1 Vy (.cells #[.int .i64 0, .int .i64 0, .int .i64 0] 23)
      replace kx := Lib.hid (kx.out.keep hbz)
      replace ky := Lib.hid (ky.out.keep hbz)
      have zz : (Vy.alloc (.cells #[.int .i64 0, .int .i64 0, .int .i64 0] 23)).heap.size = Vy.heap.size + 1 := by simp
      replace HB := Lib.hid (HB.out.trans (hbz.mono HB.out.size))
      have kz := Lib.hid (Lok.new Vy 23 #[.int .i64 0, .int .i64 0, .int .i64 0])
      clear hbz
      generalize Vy.alloc (.cells #[.int .i64 0, .int .i64 0, .int .i64 0] 23) = Vz at *
      rw [zy] at kz
      clear zx zy zz
      have x0 := kx.out.cell (i := 0) rfl
      have x1 := kx.out.cell (i := 1) rfl
      have x2 := kx.out.cell (i := 2) rfl
      go_wp2_with fail
      clear x0 x1 x2
      (((with_reducible refine (I1.out _).mono ?_); rintro e w1 ⟨rfl, hb1⟩); replace HB := Lib.hid (HB.out.trans (hb1.mono HB.out.size)); replace kx := Lib.hid (kx.out.keep hb1); replace ky := Lib.hid (ky.out.keep hb1); replace kz := Lib.hid (kz.out.keep hb1); clear hb1)
      have y0 := ky.out.cell (i := 0) rfl
      have y1 := ky.out.cell (i := 1) rfl
      have y2 := ky.out.cell (i := 2) rfl
      go_wp2_with fail
      clear y0 y1 y2
      (((with_reducible refine (I2.out _).mono ?_); rintro e w2 ⟨rfl, hb2⟩); replace HB := Lib.hid (HB.out.trans (hb2.mono HB.out.size)); replace kx := Lib.hid (kx.out.keep hb2); replace ky := Lib.hid (ky.out.keep hb2); replace kz := Lib.hid (kz.out.keep hb2); clear hb2)
      have z0 := kz.out.cell (i := 0) rfl
      have z1 := kz.out.cell (i := 1) rfl
      have z2 := kz.out.cell (i := 2) rfl
      have f0 := kz.out.frozen 0
      have f1 := kz.out.frozen 1
      have f2 := kz.out.frozen 2
      go_wp2_with fail
      exact bodyPost_ret (v := .tuple #[.agg #[.int .i64 0, .int .i64 0, .int .i64 0], .int .i64 5]) (by simp [results, Try.results36, go_sem, z0, z1, z2]) rfl ⟨rfl, ((HB.out.setCell (by simp <;> omega) _).setCell (by simp <;> omega) _).setCell (by simp <;> omega) _⟩
    | true =>
      rw [h2] at I2
      show Calls _ _ _ _ fun e' w' => e' = .returned (.tuple #[.agg #[.int .i64 (b * f - c * e), .int .i64 (c * d - a * f), .int .i64 (a * e - b * d)], .int .i64 0]) ∧ _
      rw [n3_iff] at h1 h2
      obtain ⟨e1, e2, e3⟩ := cross_wraps h1.2.1 h1.2.2 h2.2.1 h2.2.2
      obtain ⟨e4, e5, e6⟩ := cross_wraps h1.2.2 h1.1 h2.2.2 h2.1
      obtain ⟨e7, e8, e9⟩ := cross_wraps h1.1 h1.2.1 h2.1 h2.2.1
      clear h1 h2
      go_enter Try.func36, Try.ntmps36
      go_upto_region 1 with fail
      have hbx := below_new1 w (.cells #[.int .i64 a, .int .i64 b, .int .i64 c] 23)
      have zx : (w.alloc (.cells #[.int .i64 a, .int .i64 b, .int .i64 c] 23)).heap.size = w.heap.size + 1 := by simp
      have HB := Lib.hid hbx
      have kx := Lib.hid (Lok.new w 23 #[.int .i64 a, .int .i64 b, .int .i64 c])
      clear hbx
      generalize w.alloc (.cells #[.int .i64 a, .int .i64 b, .int .i64 c] 23) = Vx at *
      have hby := below_new1 Vx (.cells #[.int .i64 d, .int .i64 e, .int .i64 f] 23)
      replace kx := Lib.hid (kx.out.keep hby)
      have zy : (Vx.alloc (.cells #[.int .i64 d, .int .i64 e, .int .i64 f] 23)).heap.size = Vx.heap.size + 1 := by simp
      replace HB := Lib.hid (HB.out.trans (hby.mono HB.out.size))
      have ky := Lib.hid (Lok.new Vx 23 #[.int .i64 d, .int .i64 e, .int .i64 f])
      clear hby
      generalize Vx.alloc (.cells #[.int .i64 d, .int .i64 e, .int .i64 f] 23) = Vy at *
      rw [zx] at ky zy
      have hbz := below_new1 Vy (.cells #[.int .i64 0, .int .i64 0, .int .i64 0] 23)
      replace kx := Lib.hid (kx.out.keep hbz)
      replace ky := Lib.hid (ky.out.keep hbz)
      have zz : (Vy.alloc (.cells #[.int .i64 0, .int .i64 0, .int .i64 0] 23)).heap.size = Vy.heap.size + 1 := by simp
      replace HB := Lib.hid (HB.out.trans (hbz.mono HB.out.size))
      have kz := Lib.hid (Lok.new Vy 23 #[.int .i64 0, .int .i64 0, .int .i64 0])
      clear hbz
      generalize Vy.alloc (.cells #[.int .i64 0, .int .i64 0, .int .i64 0] 23) = Vz at *
      rw [zy] at kz
      clear zx zy zz
      have x0 := kx.out.cell (i := 0) rfl
      have x1 := kx.out.cell (i := 1) rfl
      have x2 := kx.out.cell (i := 2) rfl
      go_wp2_with fail
      clear x0 x1 x2
      (((with_reducible refine (I1.out _).mono ?_); rintro e w1 ⟨rfl, hb1⟩); replace HB := Lib.hid (HB.out.trans (hb1.mono HB.out.size)); replace kx := Lib.hid (kx.out.keep hb1); replace ky := Lib.hid (ky.out.keep hb1); replace kz := Lib.hid (kz.out.keep hb1); clear hb1)
      have y0 := ky.out.cell (i := 0) rfl
      have y1 := ky.out.cell (i := 1) rfl
      have y2 := ky.out.cell (i := 2) rfl
      go_wp2_with fail
      clear y0 y1 y2
      (((with_reducible refine (I2.out _).mono ?_); rintro e w2 ⟨rfl, hb2⟩); replace HB := Lib.hid (HB.out.trans (hb2.mono HB.out.size)); replace kx := Lib.hid (kx.out.keep hb2); replace ky := Lib.hid (ky.out.keep hb2); replace kz := Lib.hid (kz.out.keep hb2); clear hb2)
      have x0 := kx.out.cell (i := 0) rfl
      have x1 := kx.out.cell (i := 1) rfl
      have x2 := kx.out.cell (i := 2) rfl
      have y0 := ky.out.cell (i := 0) rfl
      have y1 := ky.out.cell (i := 1) rfl
      have y2 := ky.out.cell (i := 2) rfl
      have z0 := kz.out.cell (i := 0) rfl
      have z1 := kz.out.cell (i := 1) rfl
      have z2 := kz.out.cell (i := 2) rfl
      have f0 := kz.out.frozen 0
      have f1 := kz.out.frozen 1
      have f2 := kz.out.frozen 2
      go_wp2_with fail
      exact bodyPost_ret (v := .tuple #[.agg #[.int .i64 (b * f - c * e), .int .i64 (c * d - a * f), .int .i64 (a * e - b * d)], .int .i64 0]) (by simp [results, Try.results36, go_sem, z0, z1, z2]) rfl ⟨rfl, ((HB.out.setCell (by simp <;> omega) _).setCell (by simp <;> omega) _).setCell (by simp <;> omega) _⟩
end Go.Proofs.Ythjjaojimefbeaa
