/-
  The reference limewashref10: Overlap, Touch, Square. (gen/MtT.py)
-/
import Derived.Test.YthdcldbocakbpaaMtS
namespace Go.Proofs.Ythdcldbocakbpaa
open Go.RowKit

theorem rparted_3 (on : Bool) (a1 a2 b1 b2 c1 c2 d1 d2 e1 e2 f1 f2 : Int) (ha : rT a1 a2 b1 b2 c1 c2 = true) (hd : rT d1 d2 e1 e2 f1 f2 = true) (v : Bool) (hv : ptd on a1 a2 b1 b2 c1 c2 (rowOf 2 [d1, d2, e1, e2, f1, f2]) 3 = v) (g : Nat) (T : TypeId) (w : World) (h : Lok w g T #[.int .i64 d1, .int .i64 d2, .int .i64 e1, .int .i64 e2, .int .i64 f1, .int .i64 f2]) :
    Calls Try.prog 24 #[.agg #[.int .i64 a1, .int .i64 a2, .int .i64 b1, .int .i64 b2, .int .i64 c1, .int .i64 c2], .slice (some ⟨g, 0, none⟩) 3 3, .bool on] w fun e w' => e = .returned (.bool v) ∧ Below w.heap.size w w' := by
  subst hv
  obtain ⟨h1, h2, h3⟩ := small_of3 (rT_small hd)
  refine rparted_any a1 a2 b1 b2 c1 c2 (rT_small ha) on _ 3 3 (rowOf 2 [d1, d2, e1, e2, f1, f2]) w (rowK_ints (n := 3) (k := 2) [d1, d2, e1, e2, f1, f2] h rfl) (by omega) (fun i hi => ?_)
  rcases (show i = 0 ∨ i = 1 ∨ i = 2 by omega) with rfl | rfl | rfl
  · exact h1
  · exact h2
  · exact h3
theorem rparted_4 (a1 a2 b1 b2 c1 c2 x1 y1 x2 y2 x3 y3 x4 y4 : Int) (ha : rT a1 a2 b1 b2 c1 c2 = true) (h1 : s2 x1 y1 = true) (h2 : s2 x2 y2 = true) (h3 : s2 x3 y3 = true) (h4 : s2 x4 y4 = true) (g : Nat) (T : TypeId) (w : World) (h : Lok w g T #[.int .i64 x1, .int .i64 y1, .int .i64 x2, .int .i64 y2, .int .i64 x3, .int .i64 y3, .int .i64 x4, .int .i64 y4]) :
    Calls Try.prog 24 #[.agg #[.int .i64 a1, .int .i64 a2, .int .i64 b1, .int .i64 b2, .int .i64 c1, .int .i64 c2], .slice (some ⟨g, 0, none⟩) 4 4, .bool false] w fun e w' => e = .returned (.bool (r4 a1 a2 b1 b2 c1 c2 x1 y1 x2 y2 x3 y3 x4 y4 == -1)) ∧ Below w.heap.size w w' := by
  have q := rparted_any a1 a2 b1 b2 c1 c2 (rT_small ha) false _ 4 4 (rowOf 2 [x1, y1, x2, y2, x3, y3, x4, y4]) w (rowK_ints (n := 4) (k := 2) [x1, y1, x2, y2, x3, y3, x4, y4] h rfl) (by omega) (fun i hi => by
    rcases (show i = 0 ∨ i = 1 ∨ i = 2 ∨ i = 3 by omega) with rfl | rfl | rfl | rfl
    · exact h1
    · exact h2
    · exact h3
    · exact h4)
  rw [ptd_off] at q
  exact q
theorem min_on {m n : Int} (hm : -1 ≤ m ∧ m ≤ 1) (hn : -1 ≤ n ∧ n ≤ 1) : (min m n == 1) = (!(!(m == 1)) && !(!(n == 1))) := by
  rcases (show m = -1 ∨ m = 0 ∨ m = 1 by omega) with rfl | rfl | rfl <;> rcases (show n = -1 ∨ n = 0 ∨ n = 1 by omega) with rfl | rfl | rfl <;> decide
theorem min_off {m n : Int} (hm : -1 ≤ m ∧ m ≤ 1) (hn : -1 ≤ n ∧ n ≤ 1) : (min m n != -1) = (!(m == -1) && !(n == -1)) := by
  rcases (show m = -1 ∨ m = 0 ∨ m = 1 by omega) with rfl | rfl | rfl <;> rcases (show n = -1 ∨ n = 0 ∨ n = 1 by omega) with rfl | rfl | rfl <;> decide
theorem r3_bd (a1 a2 b1 b2 c1 c2 d1 d2 e1 e2 f1 f2 : Int) : -1 ≤ r3 a1 a2 b1 b2 c1 c2 d1 d2 e1 e2 f1 f2 ∧ r3 a1 a2 b1 b2 c1 c2 d1 d2 e1 e2 f1 f2 ≤ 1 := rc_bd _ _ _ _ _ _ _ _
set_option maxRecDepth 100000 in
set_option maxHeartbeats 4000000 in
theorem roverlap_any (a1 a2 b1 b2 c1 c2 d1 d2 e1 e2 f1 f2 : Int) (t : Bool) (ht : (rT a1 a2 b1 b2 c1 c2 && rT d1 d2 e1 e2 f1 f2) = t) (w : World) :
    Calls Try.prog 11 #[.agg #[.int .i64 a1, .int .i64 a2, .int .i64 b1, .int .i64 b2, .int .i64 c1, .int .i64 c2], .agg #[.int .i64 d1, .int .i64 d2, .int .i64 e1, .int .i64 e2, .int .i64 f1, .int .i64 f2]] w fun e' w' => e' = .returned (.tuple #[.bool (mV t (mu a1 a2 b1 b2 c1 c2 d1 d2 e1 e2 f1 f2) == 1), .int .i64 (mE t)]) ∧ Below w.heap.size w w' := by
  have HB := Lib.hid (Below.refl w.heap.size w)
  have R1 := Lib.hid (fun W => rright_any a1 a2 b1 b2 c1 c2 W)
  have R2 := Lib.hid (fun W => rright_any d1 d2 e1 e2 f1 f2 W)
  subst ht
  cases ha : rT a1 a2 b1 b2 c1 c2 with
  | false =>
    rw [ha] at R1
    show Calls _ _ _ _ fun e' w' => e' = .returned (.tuple #[.bool false, .int .i64 1]) ∧ _
    clear ha R2
    go_enter Try.func11, Try.ntmps11
    go_upto_region 1 with fail
    have hbx := below_new1 w (.cells #[.int .i64 a1, .int .i64 a2, .int .i64 b1, .int .i64 b2, .int .i64 c1, .int .i64 c2] 24)
    have zx : (w.alloc (.cells #[.int .i64 a1, .int .i64 a2, .int .i64 b1, .int .i64 b2, .int .i64 c1, .int .i64 c2] 24)).heap.size = w.heap.size + 1 := by simp
    have HB := Lib.hid hbx
    have kx := Lib.hid (Lok.new w 24 #[.int .i64 a1, .int .i64 a2, .int .i64 b1, .int .i64 b2, .int .i64 c1, .int .i64 c2])
    clear hbx
    generalize w.alloc (.cells #[.int .i64 a1, .int .i64 a2, .int .i64 b1, .int .i64 b2, .int .i64 c1, .int .i64 c2] 24) = Vx at *
    have hby := below_new1 Vx (.cells #[.int .i64 d1, .int .i64 d2, .int .i64 e1, .int .i64 e2, .int .i64 f1, .int .i64 f2] 24)
    replace kx := Lib.hid (kx.out.keep hby)
    have zy : (Vx.alloc (.cells #[.int .i64 d1, .int .i64 d2, .int .i64 e1, .int .i64 e2, .int .i64 f1, .int .i64 f2] 24)).heap.size = Vx.heap.size + 1 := by simp
    replace HB := Lib.hid (HB.out.trans (hby.mono HB.out.size))
    have ky := Lib.hid (Lok.new Vx 24 #[.int .i64 d1, .int .i64 d2, .int .i64 e1, .int .i64 e2, .int .i64 f1, .int .i64 f2])
    clear hby
    generalize Vx.alloc (.cells #[.int .i64 d1, .int .i64 d2, .int .i64 e1, .int .i64 e2, .int .i64 f1, .int .i64 f2] 24) = Vy at *
    rw [zx] at ky
    clear zx zy
    have x0 := kx.out.cell (i := 0) rfl
    have x1 := kx.out.cell (i := 1) rfl
    have x2 := kx.out.cell (i := 2) rfl
    have x3 := kx.out.cell (i := 3) rfl
    have x4 := kx.out.cell (i := 4) rfl
    have x5 := kx.out.cell (i := 5) rfl
    go_wp2_with fail
    clear x0 x1 x2 x3 x4 x5
    (((with_reducible refine (R1.out _).mono ?_); rintro e w1 ⟨rfl, hb1⟩); replace HB := Lib.hid (HB.out.trans (hb1.mono HB.out.size)); replace kx := Lib.hid (kx.out.keep hb1); replace ky := Lib.hid (ky.out.keep hb1); clear hb1)
    go_wp2
    go_ret2
    exact ⟨rfl, HB.out⟩
  | true =>
    rw [ha] at R1
    cases hd : rT d1 d2 e1 e2 f1 f2 with
    | false =>
      rw [hd] at R2
      show Calls _ _ _ _ fun e' w' => e' = .returned (.tuple #[.bool false, .int .i64 1]) ∧ _
      clear ha hd
      go_enter Try.func11, Try.ntmps11
      go_upto_region 1 with fail
      have hbx := below_new1 w (.cells #[.int .i64 a1, .int .i64 a2, .int .i64 b1, .int .i64 b2, .int .i64 c1, .int .i64 c2] 24)
      have zx : (w.alloc (.cells #[.int .i64 a1, .int .i64 a2, .int .i64 b1, .int .i64 b2, .int .i64 c1, .int .i64 c2] 24)).heap.size = w.heap.size + 1 := by simp
      have HB := Lib.hid hbx
      have kx := Lib.hid (Lok.new w 24 #[.int .i64 a1, .int .i64 a2, .int .i64 b1, .int .i64 b2, .int .i64 c1, .int .i64 c2])
      clear hbx
      generalize w.alloc (.cells #[.int .i64 a1, .int .i64 a2, .int .i64 b1, .int .i64 b2, .int .i64 c1, .int .i64 c2] 24) = Vx at *
      have hby := below_new1 Vx (.cells #[.int .i64 d1, .int .i64 d2, .int .i64 e1, .int .i64 e2, .int .i64 f1, .int .i64 f2] 24)
      replace kx := Lib.hid (kx.out.keep hby)
      have zy : (Vx.alloc (.cells #[.int .i64 d1, .int .i64 d2, .int .i64 e1, .int .i64 e2, .int .i64 f1, .int .i64 f2] 24)).heap.size = Vx.heap.size + 1 := by simp
      replace HB := Lib.hid (HB.out.trans (hby.mono HB.out.size))
      have ky := Lib.hid (Lok.new Vx 24 #[.int .i64 d1, .int .i64 d2, .int .i64 e1, .int .i64 e2, .int .i64 f1, .int .i64 f2])
      clear hby
      generalize Vx.alloc (.cells #[.int .i64 d1, .int .i64 d2, .int .i64 e1, .int .i64 e2, .int .i64 f1, .int .i64 f2] 24) = Vy at *
      rw [zx] at ky
      clear zx zy
      have x0 := kx.out.cell (i := 0) rfl
      have x1 := kx.out.cell (i := 1) rfl
      have x2 := kx.out.cell (i := 2) rfl
      have x3 := kx.out.cell (i := 3) rfl
      have x4 := kx.out.cell (i := 4) rfl
      have x5 := kx.out.cell (i := 5) rfl
      go_wp2_with fail
      clear x0 x1 x2 x3 x4 x5
      (((with_reducible refine (R1.out _).mono ?_); rintro e w1 ⟨rfl, hb1⟩); replace HB := Lib.hid (HB.out.trans (hb1.mono HB.out.size)); replace kx := Lib.hid (kx.out.keep hb1); replace ky := Lib.hid (ky.out.keep hb1); clear hb1)
      have y0 := ky.out.cell (i := 0) rfl
      have y1 := ky.out.cell (i := 1) rfl
      have y2 := ky.out.cell (i := 2) rfl
      have y3 := ky.out.cell (i := 3) rfl
      have y4 := ky.out.cell (i := 4) rfl
      have y5 := ky.out.cell (i := 5) rfl
      go_wp2_with fail
      clear y0 y1 y2 y3 y4 y5
      (((with_reducible refine (R2.out _).mono ?_); rintro e w2 ⟨rfl, hb2⟩); replace HB := Lib.hid (HB.out.trans (hb2.mono HB.out.size)); replace kx := Lib.hid (kx.out.keep hb2); replace ky := Lib.hid (ky.out.keep hb2); clear hb2)
      go_wp2
      go_ret2
      exact ⟨rfl, HB.out⟩
    | true =>
      rw [hd] at R2
      have fin : (mV true (mu a1 a2 b1 b2 c1 c2 d1 d2 e1 e2 f1 f2) == 1) = (!(ptd true a1 a2 b1 b2 c1 c2 (rowOf 2 [d1, d2, e1, e2, f1, f2]) 3) && !(ptd true d1 d2 e1 e2 f1 f2 (rowOf 2 [a1, a2, b1, b2, c1, c2]) 3)) := by
        rw [ptd_on, ptd_on]
        exact min_on (r3_bd a1 a2 b1 b2 c1 c2 d1 d2 e1 e2 f1 f2) (r3_bd d1 d2 e1 e2 f1 f2 a1 a2 b1 b2 c1 c2)
      show Calls _ _ _ _ fun e' w' => e' = .returned (.tuple #[.bool ((mu a1 a2 b1 b2 c1 c2 d1 d2 e1 e2 f1 f2) == 1), .int .i64 0]) ∧ _
      rw [show ((mu a1 a2 b1 b2 c1 c2 d1 d2 e1 e2 f1 f2) == 1) = _ from fin]
      obtain ⟨v1, hv1⟩ : ∃ v, ptd true a1 a2 b1 b2 c1 c2 (rowOf 2 [d1, d2, e1, e2, f1, f2]) 3 = v := ⟨_, rfl⟩
      obtain ⟨v2, hv2⟩ : ∃ v, ptd true d1 d2 e1 e2 f1 f2 (rowOf 2 [a1, a2, b1, b2, c1, c2]) 3 = v := ⟨_, rfl⟩
      have P1 := Lib.hid (fun g T W h => rparted_3 true a1 a2 b1 b2 c1 c2 d1 d2 e1 e2 f1 f2 ha hd v1 hv1 g T W h)
      have P2 := Lib.hid (fun g T W h => rparted_3 true d1 d2 e1 e2 f1 f2 a1 a2 b1 b2 c1 c2 hd ha v2 hv2 g T W h)
      rw [hv1, hv2]
      clear fin ha hd hv1 hv2
      cases v1 with
      | true =>
        clear P2
        go_enter Try.func11, Try.ntmps11
        go_upto_region 1 with fail
        have hbx := below_new1 w (.cells #[.int .i64 a1, .int .i64 a2, .int .i64 b1, .int .i64 b2, .int .i64 c1, .int .i64 c2] 24)
        have zx : (w.alloc (.cells #[.int .i64 a1, .int .i64 a2, .int .i64 b1, .int .i64 b2, .int .i64 c1, .int .i64 c2] 24)).heap.size = w.heap.size + 1 := by simp
        have HB := Lib.hid hbx
        have kx := Lib.hid (Lok.new w 24 #[.int .i64 a1, .int .i64 a2, .int .i64 b1, .int .i64 b2, .int .i64 c1, .int .i64 c2])
        clear hbx
        generalize w.alloc (.cells #[.int .i64 a1, .int .i64 a2, .int .i64 b1, .int .i64 b2, .int .i64 c1, .int .i64 c2] 24) = Vx at *
        have hby := below_new1 Vx (.cells #[.int .i64 d1, .int .i64 d2, .int .i64 e1, .int .i64 e2, .int .i64 f1, .int .i64 f2] 24)
        replace kx := Lib.hid (kx.out.keep hby)
        have zy : (Vx.alloc (.cells #[.int .i64 d1, .int .i64 d2, .int .i64 e1, .int .i64 e2, .int .i64 f1, .int .i64 f2] 24)).heap.size = Vx.heap.size + 1 := by simp
        replace HB := Lib.hid (HB.out.trans (hby.mono HB.out.size))
        have ky := Lib.hid (Lok.new Vx 24 #[.int .i64 d1, .int .i64 d2, .int .i64 e1, .int .i64 e2, .int .i64 f1, .int .i64 f2])
        clear hby
        generalize Vx.alloc (.cells #[.int .i64 d1, .int .i64 d2, .int .i64 e1, .int .i64 e2, .int .i64 f1, .int .i64 f2] 24) = Vy at *
        rw [zx] at ky
        clear zx zy
        have x0 := kx.out.cell (i := 0) rfl
        have x1 := kx.out.cell (i := 1) rfl
        have x2 := kx.out.cell (i := 2) rfl
        have x3 := kx.out.cell (i := 3) rfl
        have x4 := kx.out.cell (i := 4) rfl
        have x5 := kx.out.cell (i := 5) rfl
        go_wp2_with fail
        clear x0 x1 x2 x3 x4 x5
        (((with_reducible refine (R1.out _).mono ?_); rintro e w1 ⟨rfl, hb1⟩); replace HB := Lib.hid (HB.out.trans (hb1.mono HB.out.size)); replace kx := Lib.hid (kx.out.keep hb1); replace ky := Lib.hid (ky.out.keep hb1); clear hb1)
        have y0 := ky.out.cell (i := 0) rfl
        have y1 := ky.out.cell (i := 1) rfl
        have y2 := ky.out.cell (i := 2) rfl
        have y3 := ky.out.cell (i := 3) rfl
        have y4 := ky.out.cell (i := 4) rfl
        have y5 := ky.out.cell (i := 5) rfl
        go_wp2_with fail
        clear y0 y1 y2 y3 y4 y5
        (((with_reducible refine (R2.out _).mono ?_); rintro e w2 ⟨rfl, hb2⟩); replace HB := Lib.hid (HB.out.trans (hb2.mono HB.out.size)); replace kx := Lib.hid (kx.out.keep hb2); replace ky := Lib.hid (ky.out.keep hb2); clear hb2)
        have x0 := kx.out.cell (i := 0) rfl
        have x1 := kx.out.cell (i := 1) rfl
        have x2 := kx.out.cell (i := 2) rfl
        have x3 := kx.out.cell (i := 3) rfl
        have x4 := kx.out.cell (i := 4) rfl
        have x5 := kx.out.cell (i := 5) rfl
        have y0 := ky.out.cell (i := 0) rfl
        have y1 := ky.out.cell (i := 1) rfl
        have y2 := ky.out.cell (i := 2) rfl
        have y3 := ky.out.cell (i := 3) rfl
        have y4 := ky.out.cell (i := 4) rfl
        have y5 := ky.out.cell (i := 5) rfl
        go_wp2_with fail
        have hbp := below_new1 w2 (.cells #[.int .i64 d1, .int .i64 d2, .int .i64 e1, .int .i64 e2, .int .i64 f1, .int .i64 f2] 23)
        replace kx := Lib.hid (kx.out.keep hbp)
        replace ky := Lib.hid (ky.out.keep hbp)
        have zp : (w2.alloc (.cells #[.int .i64 d1, .int .i64 d2, .int .i64 e1, .int .i64 e2, .int .i64 f1, .int .i64 f2] 23)).heap.size = w2.heap.size + 1 := by simp
        replace HB := Lib.hid (HB.out.trans (hbp.mono HB.out.size))
        have kp := Lib.hid (Lok.new w2 23 #[.int .i64 d1, .int .i64 d2, .int .i64 e1, .int .i64 e2, .int .i64 f1, .int .i64 f2])
        clear hbp
        generalize w2.alloc (.cells #[.int .i64 d1, .int .i64 d2, .int .i64 e1, .int .i64 e2, .int .i64 f1, .int .i64 f2] 23) = Vp at *
        clear zp
        clear x0 x1 x2 x3 x4 x5 y0 y1 y2 y3 y4 y5
        (((with_reducible refine (P1.out _ _ _ kp.out).mono ?_); rintro e w3 ⟨rfl, hb3⟩); replace HB := Lib.hid (HB.out.trans (hb3.mono HB.out.size)); replace kx := Lib.hid (kx.out.keep hb3); replace ky := Lib.hid (ky.out.keep hb3); clear hb3)
        clear kp
        go_wp2
        go_ret2
        exact ⟨rfl, HB.out⟩
      | false =>
        go_enter Try.func11, Try.ntmps11
        go_upto_region 1 with fail
        have hbx := below_new1 w (.cells #[.int .i64 a1, .int .i64 a2, .int .i64 b1, .int .i64 b2, .int .i64 c1, .int .i64 c2] 24)
        have zx : (w.alloc (.cells #[.int .i64 a1, .int .i64 a2, .int .i64 b1, .int .i64 b2, .int .i64 c1, .int .i64 c2] 24)).heap.size = w.heap.size + 1 := by simp
        have HB := Lib.hid hbx
        have kx := Lib.hid (Lok.new w 24 #[.int .i64 a1, .int .i64 a2, .int .i64 b1, .int .i64 b2, .int .i64 c1, .int .i64 c2])
        clear hbx
        generalize w.alloc (.cells #[.int .i64 a1, .int .i64 a2, .int .i64 b1, .int .i64 b2, .int .i64 c1, .int .i64 c2] 24) = Vx at *
        have hby := below_new1 Vx (.cells #[.int .i64 d1, .int .i64 d2, .int .i64 e1, .int .i64 e2, .int .i64 f1, .int .i64 f2] 24)
        replace kx := Lib.hid (kx.out.keep hby)
        have zy : (Vx.alloc (.cells #[.int .i64 d1, .int .i64 d2, .int .i64 e1, .int .i64 e2, .int .i64 f1, .int .i64 f2] 24)).heap.size = Vx.heap.size + 1 := by simp
        replace HB := Lib.hid (HB.out.trans (hby.mono HB.out.size))
        have ky := Lib.hid (Lok.new Vx 24 #[.int .i64 d1, .int .i64 d2, .int .i64 e1, .int .i64 e2, .int .i64 f1, .int .i64 f2])
        clear hby
        generalize Vx.alloc (.cells #[.int .i64 d1, .int .i64 d2, .int .i64 e1, .int .i64 e2, .int .i64 f1, .int .i64 f2] 24) = Vy at *
        rw [zx] at ky
        clear zx zy
        have x0 := kx.out.cell (i := 0) rfl
        have x1 := kx.out.cell (i := 1) rfl
        have x2 := kx.out.cell (i := 2) rfl
        have x3 := kx.out.cell (i := 3) rfl
        have x4 := kx.out.cell (i := 4) rfl
        have x5 := kx.out.cell (i := 5) rfl
        go_wp2_with fail
        clear x0 x1 x2 x3 x4 x5
        (((with_reducible refine (R1.out _).mono ?_); rintro e w1 ⟨rfl, hb1⟩); replace HB := Lib.hid (HB.out.trans (hb1.mono HB.out.size)); replace kx := Lib.hid (kx.out.keep hb1); replace ky := Lib.hid (ky.out.keep hb1); clear hb1)
        have y0 := ky.out.cell (i := 0) rfl
        have y1 := ky.out.cell (i := 1) rfl
        have y2 := ky.out.cell (i := 2) rfl
        have y3 := ky.out.cell (i := 3) rfl
        have y4 := ky.out.cell (i := 4) rfl
        have y5 := ky.out.cell (i := 5) rfl
        go_wp2_with fail
        clear y0 y1 y2 y3 y4 y5
        (((with_reducible refine (R2.out _).mono ?_); rintro e w2 ⟨rfl, hb2⟩); replace HB := Lib.hid (HB.out.trans (hb2.mono HB.out.size)); replace kx := Lib.hid (kx.out.keep hb2); replace ky := Lib.hid (ky.out.keep hb2); clear hb2)
        have x0 := kx.out.cell (i := 0) rfl
        have x1 := kx.out.cell (i := 1) rfl
        have x2 := kx.out.cell (i := 2) rfl
        have x3 := kx.out.cell (i := 3) rfl
        have x4 := kx.out.cell (i := 4) rfl
        have x5 := kx.out.cell (i := 5) rfl
        have y0 := ky.out.cell (i := 0) rfl
        have y1 := ky.out.cell (i := 1) rfl
        have y2 := ky.out.cell (i := 2) rfl
        have y3 := ky.out.cell (i := 3) rfl
        have y4 := ky.out.cell (i := 4) rfl
        have y5 := ky.out.cell (i := 5) rfl
        go_wp2_with fail
        have hbp := below_new1 w2 (.cells #[.int .i64 d1, .int .i64 d2, .int .i64 e1, .int .i64 e2, .int .i64 f1, .int .i64 f2] 23)
        replace kx := Lib.hid (kx.out.keep hbp)
        replace ky := Lib.hid (ky.out.keep hbp)
        have zp : (w2.alloc (.cells #[.int .i64 d1, .int .i64 d2, .int .i64 e1, .int .i64 e2, .int .i64 f1, .int .i64 f2] 23)).heap.size = w2.heap.size + 1 := by simp
        replace HB := Lib.hid (HB.out.trans (hbp.mono HB.out.size))
        have kp := Lib.hid (Lok.new w2 23 #[.int .i64 d1, .int .i64 d2, .int .i64 e1, .int .i64 e2, .int .i64 f1, .int .i64 f2])
        clear hbp
        generalize w2.alloc (.cells #[.int .i64 d1, .int .i64 d2, .int .i64 e1, .int .i64 e2, .int .i64 f1, .int .i64 f2] 23) = Vp at *
        clear zp
        clear x0 x1 x2 x3 x4 x5 y0 y1 y2 y3 y4 y5
        (((with_reducible refine (P1.out _ _ _ kp.out).mono ?_); rintro e w3 ⟨rfl, hb3⟩); replace HB := Lib.hid (HB.out.trans (hb3.mono HB.out.size)); replace kx := Lib.hid (kx.out.keep hb3); replace ky := Lib.hid (ky.out.keep hb3); clear hb3)
        clear kp
        have x0 := kx.out.cell (i := 0) rfl
        have x1 := kx.out.cell (i := 1) rfl
        have x2 := kx.out.cell (i := 2) rfl
        have x3 := kx.out.cell (i := 3) rfl
        have x4 := kx.out.cell (i := 4) rfl
        have x5 := kx.out.cell (i := 5) rfl
        have y0 := ky.out.cell (i := 0) rfl
        have y1 := ky.out.cell (i := 1) rfl
        have y2 := ky.out.cell (i := 2) rfl
        have y3 := ky.out.cell (i := 3) rfl
        have y4 := ky.out.cell (i := 4) rfl
        have y5 := ky.out.cell (i := 5) rfl
        go_wp2_with fail
        have hbq := below_new1 w3 (.cells #[.int .i64 a1, .int .i64 a2, .int .i64 b1, .int .i64 b2, .int .i64 c1, .int .i64 c2] 23)
        replace kx := Lib.hid (kx.out.keep hbq)
        replace ky := Lib.hid (ky.out.keep hbq)
        have zq : (w3.alloc (.cells #[.int .i64 a1, .int .i64 a2, .int .i64 b1, .int .i64 b2, .int .i64 c1, .int .i64 c2] 23)).heap.size = w3.heap.size + 1 := by simp
        replace HB := Lib.hid (HB.out.trans (hbq.mono HB.out.size))
        have kq := Lib.hid (Lok.new w3 23 #[.int .i64 a1, .int .i64 a2, .int .i64 b1, .int .i64 b2, .int .i64 c1, .int .i64 c2])
        clear hbq
        generalize w3.alloc (.cells #[.int .i64 a1, .int .i64 a2, .int .i64 b1, .int .i64 b2, .int .i64 c1, .int .i64 c2] 23) = Vq at *
        clear zq
        clear x0 x1 x2 x3 x4 x5 y0 y1 y2 y3 y4 y5
        (((with_reducible refine (P2.out _ _ _ kq.out).mono ?_); rintro e w4 ⟨rfl, hb4⟩); replace HB := Lib.hid (HB.out.trans (hb4.mono HB.out.size)); clear hb4)
        clear kq
        go_wp2
        go_ret2
        exact ⟨rfl, HB.out⟩
set_option maxRecDepth 100000 in
set_option maxHeartbeats 4000000 in
theorem rtouch_any (a1 a2 b1 b2 c1 c2 d1 d2 e1 e2 f1 f2 : Int) (t : Bool) (ht : (rT a1 a2 b1 b2 c1 c2 && rT d1 d2 e1 e2 f1 f2) = t) (w : World) :
    Calls Try.prog 13 #[.agg #[.int .i64 a1, .int .i64 a2, .int .i64 b1, .int .i64 b2, .int .i64 c1, .int .i64 c2], .agg #[.int .i64 d1, .int .i64 d2, .int .i64 e1, .int .i64 e2, .int .i64 f1, .int .i64 f2]] w fun e' w' => e' = .returned (.tuple #[.bool (mV t (mu a1 a2 b1 b2 c1 c2 d1 d2 e1 e2 f1 f2) != -1), .int .i64 (mE t)]) ∧ Below w.heap.size w w' := by
  have HB := Lib.hid (Below.refl w.heap.size w)
  have R1 := Lib.hid (fun W => rright_any a1 a2 b1 b2 c1 c2 W)
  have R2 := Lib.hid (fun W => rright_any d1 d2 e1 e2 f1 f2 W)
  subst ht
  cases ha : rT a1 a2 b1 b2 c1 c2 with
  | false =>
    rw [ha] at R1
    show Calls _ _ _ _ fun e' w' => e' = .returned (.tuple #[.bool false, .int .i64 1]) ∧ _
    clear ha R2
    go_enter Try.func13, Try.ntmps13
    go_upto_region 1 with fail
    have hbx := below_new1 w (.cells #[.int .i64 a1, .int .i64 a2, .int .i64 b1, .int .i64 b2, .int .i64 c1, .int .i64 c2] 24)
    have zx : (w.alloc (.cells #[.int .i64 a1, .int .i64 a2, .int .i64 b1, .int .i64 b2, .int .i64 c1, .int .i64 c2] 24)).heap.size = w.heap.size + 1 := by simp
    have HB := Lib.hid hbx
    have kx := Lib.hid (Lok.new w 24 #[.int .i64 a1, .int .i64 a2, .int .i64 b1, .int .i64 b2, .int .i64 c1, .int .i64 c2])
    clear hbx
    generalize w.alloc (.cells #[.int .i64 a1, .int .i64 a2, .int .i64 b1, .int .i64 b2, .int .i64 c1, .int .i64 c2] 24) = Vx at *
    have hby := below_new1 Vx (.cells #[.int .i64 d1, .int .i64 d2, .int .i64 e1, .int .i64 e2, .int .i64 f1, .int .i64 f2] 24)
    replace kx := Lib.hid (kx.out.keep hby)
    have zy : (Vx.alloc (.cells #[.int .i64 d1, .int .i64 d2, .int .i64 e1, .int .i64 e2, .int .i64 f1, .int .i64 f2] 24)).heap.size = Vx.heap.size + 1 := by simp
    replace HB := Lib.hid (HB.out.trans (hby.mono HB.out.size))
    have ky := Lib.hid (Lok.new Vx 24 #[.int .i64 d1, .int .i64 d2, .int .i64 e1, .int .i64 e2, .int .i64 f1, .int .i64 f2])
    clear hby
    generalize Vx.alloc (.cells #[.int .i64 d1, .int .i64 d2, .int .i64 e1, .int .i64 e2, .int .i64 f1, .int .i64 f2] 24) = Vy at *
    rw [zx] at ky
    clear zx zy
    have x0 := kx.out.cell (i := 0) rfl
    have x1 := kx.out.cell (i := 1) rfl
    have x2 := kx.out.cell (i := 2) rfl
    have x3 := kx.out.cell (i := 3) rfl
    have x4 := kx.out.cell (i := 4) rfl
    have x5 := kx.out.cell (i := 5) rfl
    go_wp2_with fail
    clear x0 x1 x2 x3 x4 x5
    (((with_reducible refine (R1.out _).mono ?_); rintro e w1 ⟨rfl, hb1⟩); replace HB := Lib.hid (HB.out.trans (hb1.mono HB.out.size)); replace kx := Lib.hid (kx.out.keep hb1); replace ky := Lib.hid (ky.out.keep hb1); clear hb1)
    go_wp2
    go_ret2
    exact ⟨rfl, HB.out⟩
  | true =>
    rw [ha] at R1
    cases hd : rT d1 d2 e1 e2 f1 f2 with
    | false =>
      rw [hd] at R2
      show Calls _ _ _ _ fun e' w' => e' = .returned (.tuple #[.bool false, .int .i64 1]) ∧ _
      clear ha hd
      go_enter Try.func13, Try.ntmps13
      go_upto_region 1 with fail
      have hbx := below_new1 w (.cells #[.int .i64 a1, .int .i64 a2, .int .i64 b1, .int .i64 b2, .int .i64 c1, .int .i64 c2] 24)
      have zx : (w.alloc (.cells #[.int .i64 a1, .int .i64 a2, .int .i64 b1, .int .i64 b2, .int .i64 c1, .int .i64 c2] 24)).heap.size = w.heap.size + 1 := by simp
      have HB := Lib.hid hbx
      have kx := Lib.hid (Lok.new w 24 #[.int .i64 a1, .int .i64 a2, .int .i64 b1, .int .i64 b2, .int .i64 c1, .int .i64 c2])
      clear hbx
      generalize w.alloc (.cells #[.int .i64 a1, .int .i64 a2, .int .i64 b1, .int .i64 b2, .int .i64 c1, .int .i64 c2] 24) = Vx at *
      have hby := below_new1 Vx (.cells #[.int .i64 d1, .int .i64 d2, .int .i64 e1, .int .i64 e2, .int .i64 f1, .int .i64 f2] 24)
      replace kx := Lib.hid (kx.out.keep hby)
      have zy : (Vx.alloc (.cells #[.int .i64 d1, .int .i64 d2, .int .i64 e1, .int .i64 e2, .int .i64 f1, .int .i64 f2] 24)).heap.size = Vx.heap.size + 1 := by simp
      replace HB := Lib.hid (HB.out.trans (hby.mono HB.out.size))
      have ky := Lib.hid (Lok.new Vx 24 #[.int .i64 d1, .int .i64 d2, .int .i64 e1, .int .i64 e2, .int .i64 f1, .int .i64 f2])
      clear hby
      generalize Vx.alloc (.cells #[.int .i64 d1, .int .i64 d2, .int .i64 e1, .int .i64 e2, .int .i64 f1, .int .i64 f2] 24) = Vy at *
      rw [zx] at ky
      clear zx zy
      have x0 := kx.out.cell (i := 0) rfl
      have x1 := kx.out.cell (i := 1) rfl
      have x2 := kx.out.cell (i := 2) rfl
      have x3 := kx.out.cell (i := 3) rfl
      have x4 := kx.out.cell (i := 4) rfl
      have x5 := kx.out.cell (i := 5) rfl
      go_wp2_with fail
      clear x0 x1 x2 x3 x4 x5
      (((with_reducible refine (R1.out _).mono ?_); rintro e w1 ⟨rfl, hb1⟩); replace HB := Lib.hid (HB.out.trans (hb1.mono HB.out.size)); replace kx := Lib.hid (kx.out.keep hb1); replace ky := Lib.hid (ky.out.keep hb1); clear hb1)
      have y0 := ky.out.cell (i := 0) rfl
      have y1 := ky.out.cell (i := 1) rfl
      have y2 := ky.out.cell (i := 2) rfl
      have y3 := ky.out.cell (i := 3) rfl
      have y4 := ky.out.cell (i := 4) rfl
      have y5 := ky.out.cell (i := 5) rfl
      go_wp2_with fail
      clear y0 y1 y2 y3 y4 y5
      (((with_reducible refine (R2.out _).mono ?_); rintro e w2 ⟨rfl, hb2⟩); replace HB := Lib.hid (HB.out.trans (hb2.mono HB.out.size)); replace kx := Lib.hid (kx.out.keep hb2); replace ky := Lib.hid (ky.out.keep hb2); clear hb2)
      go_wp2
      go_ret2
      exact ⟨rfl, HB.out⟩
    | true =>
      rw [hd] at R2
      have fin : (mV true (mu a1 a2 b1 b2 c1 c2 d1 d2 e1 e2 f1 f2) != -1) = (!(ptd false a1 a2 b1 b2 c1 c2 (rowOf 2 [d1, d2, e1, e2, f1, f2]) 3) && !(ptd false d1 d2 e1 e2 f1 f2 (rowOf 2 [a1, a2, b1, b2, c1, c2]) 3)) := by
        rw [ptd_off, ptd_off]
        exact min_off (r3_bd a1 a2 b1 b2 c1 c2 d1 d2 e1 e2 f1 f2) (r3_bd d1 d2 e1 e2 f1 f2 a1 a2 b1 b2 c1 c2)
      show Calls _ _ _ _ fun e' w' => e' = .returned (.tuple #[.bool ((mu a1 a2 b1 b2 c1 c2 d1 d2 e1 e2 f1 f2) != -1), .int .i64 0]) ∧ _
      rw [show ((mu a1 a2 b1 b2 c1 c2 d1 d2 e1 e2 f1 f2) != -1) = _ from fin]
      obtain ⟨v1, hv1⟩ : ∃ v, ptd false a1 a2 b1 b2 c1 c2 (rowOf 2 [d1, d2, e1, e2, f1, f2]) 3 = v := ⟨_, rfl⟩
      obtain ⟨v2, hv2⟩ : ∃ v, ptd false d1 d2 e1 e2 f1 f2 (rowOf 2 [a1, a2, b1, b2, c1, c2]) 3 = v := ⟨_, rfl⟩
      have P1 := Lib.hid (fun g T W h => rparted_3 false a1 a2 b1 b2 c1 c2 d1 d2 e1 e2 f1 f2 ha hd v1 hv1 g T W h)
      have P2 := Lib.hid (fun g T W h => rparted_3 false d1 d2 e1 e2 f1 f2 a1 a2 b1 b2 c1 c2 hd ha v2 hv2 g T W h)
      rw [hv1, hv2]
      clear fin ha hd hv1 hv2
      cases v1 with
      | true =>
        clear P2
        go_enter Try.func13, Try.ntmps13
        go_upto_region 1 with fail
        have hbx := below_new1 w (.cells #[.int .i64 a1, .int .i64 a2, .int .i64 b1, .int .i64 b2, .int .i64 c1, .int .i64 c2] 24)
        have zx : (w.alloc (.cells #[.int .i64 a1, .int .i64 a2, .int .i64 b1, .int .i64 b2, .int .i64 c1, .int .i64 c2] 24)).heap.size = w.heap.size + 1 := by simp
        have HB := Lib.hid hbx
        have kx := Lib.hid (Lok.new w 24 #[.int .i64 a1, .int .i64 a2, .int .i64 b1, .int .i64 b2, .int .i64 c1, .int .i64 c2])
        clear hbx
        generalize w.alloc (.cells #[.int .i64 a1, .int .i64 a2, .int .i64 b1, .int .i64 b2, .int .i64 c1, .int .i64 c2] 24) = Vx at *
        have hby := below_new1 Vx (.cells #[.int .i64 d1, .int .i64 d2, .int .i64 e1, .int .i64 e2, .int .i64 f1, .int .i64 f2] 24)
        replace kx := Lib.hid (kx.out.keep hby)
        have zy : (Vx.alloc (.cells #[.int .i64 d1, .int .i64 d2, .int .i64 e1, .int .i64 e2, .int .i64 f1, .int .i64 f2] 24)).heap.size = Vx.heap.size + 1 := by simp
        replace HB := Lib.hid (HB.out.trans (hby.mono HB.out.size))
        have ky := Lib.hid (Lok.new Vx 24 #[.int .i64 d1, .int .i64 d2, .int .i64 e1, .int .i64 e2, .int .i64 f1, .int .i64 f2])
        clear hby
        generalize Vx.alloc (.cells #[.int .i64 d1, .int .i64 d2, .int .i64 e1, .int .i64 e2, .int .i64 f1, .int .i64 f2] 24) = Vy at *
        rw [zx] at ky
        clear zx zy
        have x0 := kx.out.cell (i := 0) rfl
        have x1 := kx.out.cell (i := 1) rfl
        have x2 := kx.out.cell (i := 2) rfl
        have x3 := kx.out.cell (i := 3) rfl
        have x4 := kx.out.cell (i := 4) rfl
        have x5 := kx.out.cell (i := 5) rfl
        go_wp2_with fail
        clear x0 x1 x2 x3 x4 x5
        (((with_reducible refine (R1.out _).mono ?_); rintro e w1 ⟨rfl, hb1⟩); replace HB := Lib.hid (HB.out.trans (hb1.mono HB.out.size)); replace kx := Lib.hid (kx.out.keep hb1); replace ky := Lib.hid (ky.out.keep hb1); clear hb1)
        have y0 := ky.out.cell (i := 0) rfl
        have y1 := ky.out.cell (i := 1) rfl
        have y2 := ky.out.cell (i := 2) rfl
        have y3 := ky.out.cell (i := 3) rfl
        have y4 := ky.out.cell (i := 4) rfl
        have y5 := ky.out.cell (i := 5) rfl
        go_wp2_with fail
        clear y0 y1 y2 y3 y4 y5
        (((with_reducible refine (R2.out _).mono ?_); rintro e w2 ⟨rfl, hb2⟩); replace HB := Lib.hid (HB.out.trans (hb2.mono HB.out.size)); replace kx := Lib.hid (kx.out.keep hb2); replace ky := Lib.hid (ky.out.keep hb2); clear hb2)
        have x0 := kx.out.cell (i := 0) rfl
        have x1 := kx.out.cell (i := 1) rfl
        have x2 := kx.out.cell (i := 2) rfl
        have x3 := kx.out.cell (i := 3) rfl
        have x4 := kx.out.cell (i := 4) rfl
        have x5 := kx.out.cell (i := 5) rfl
        have y0 := ky.out.cell (i := 0) rfl
        have y1 := ky.out.cell (i := 1) rfl
        have y2 := ky.out.cell (i := 2) rfl
        have y3 := ky.out.cell (i := 3) rfl
        have y4 := ky.out.cell (i := 4) rfl
        have y5 := ky.out.cell (i := 5) rfl
        go_wp2_with fail
        have hbp := below_new1 w2 (.cells #[.int .i64 d1, .int .i64 d2, .int .i64 e1, .int .i64 e2, .int .i64 f1, .int .i64 f2] 23)
        replace kx := Lib.hid (kx.out.keep hbp)
        replace ky := Lib.hid (ky.out.keep hbp)
        have zp : (w2.alloc (.cells #[.int .i64 d1, .int .i64 d2, .int .i64 e1, .int .i64 e2, .int .i64 f1, .int .i64 f2] 23)).heap.size = w2.heap.size + 1 := by simp
        replace HB := Lib.hid (HB.out.trans (hbp.mono HB.out.size))
        have kp := Lib.hid (Lok.new w2 23 #[.int .i64 d1, .int .i64 d2, .int .i64 e1, .int .i64 e2, .int .i64 f1, .int .i64 f2])
        clear hbp
        generalize w2.alloc (.cells #[.int .i64 d1, .int .i64 d2, .int .i64 e1, .int .i64 e2, .int .i64 f1, .int .i64 f2] 23) = Vp at *
        clear zp
        clear x0 x1 x2 x3 x4 x5 y0 y1 y2 y3 y4 y5
        (((with_reducible refine (P1.out _ _ _ kp.out).mono ?_); rintro e w3 ⟨rfl, hb3⟩); replace HB := Lib.hid (HB.out.trans (hb3.mono HB.out.size)); replace kx := Lib.hid (kx.out.keep hb3); replace ky := Lib.hid (ky.out.keep hb3); clear hb3)
        clear kp
        go_wp2
        go_ret2
        exact ⟨rfl, HB.out⟩
      | false =>
        go_enter Try.func13, Try.ntmps13
        go_upto_region 1 with fail
        have hbx := below_new1 w (.cells #[.int .i64 a1, .int .i64 a2, .int .i64 b1, .int .i64 b2, .int .i64 c1, .int .i64 c2] 24)
        have zx : (w.alloc (.cells #[.int .i64 a1, .int .i64 a2, .int .i64 b1, .int .i64 b2, .int .i64 c1, .int .i64 c2] 24)).heap.size = w.heap.size + 1 := by simp
        have HB := Lib.hid hbx
        have kx := Lib.hid (Lok.new w 24 #[.int .i64 a1, .int .i64 a2, .int .i64 b1, .int .i64 b2, .int .i64 c1, .int .i64 c2])
        clear hbx
        generalize w.alloc (.cells #[.int .i64 a1, .int .i64 a2, .int .i64 b1, .int .i64 b2, .int .i64 c1, .int .i64 c2] 24) = Vx at *
        have hby := below_new1 Vx (.cells #[.int .i64 d1, .int .i64 d2, .int .i64 e1, .int .i64 e2, .int .i64 f1, .int .i64 f2] 24)
        replace kx := Lib.hid (kx.out.keep hby)
        have zy : (Vx.alloc (.cells #[.int .i64 d1, .int .i64 d2, .int .i64 e1, .int .i64 e2, .int .i64 f1, .int .i64 f2] 24)).heap.size = Vx.heap.size + 1 := by simp
        replace HB := Lib.hid (HB.out.trans (hby.mono HB.out.size))
        have ky := Lib.hid (Lok.new Vx 24 #[.int .i64 d1, .int .i64 d2, .int .i64 e1, .int .i64 e2, .int .i64 f1, .int .i64 f2])
        clear hby
        generalize Vx.alloc (.cells #[.int .i64 d1, .int .i64 d2, .int .i64 e1, .int .i64 e2, .int .i64 f1, .int .i64 f2] 24) = Vy at *
        rw [zx] at ky
        clear zx zy
        have x0 := kx.out.cell (i := 0) rfl
        have x1 := kx.out.cell (i := 1) rfl
        have x2 := kx.out.cell (i := 2) rfl
        have x3 := kx.out.cell (i := 3) rfl
        have x4 := kx.out.cell (i := 4) rfl
        have x5 := kx.out.cell (i := 5) rfl
        go_wp2_with fail
        clear x0 x1 x2 x3 x4 x5
        (((with_reducible refine (R1.out _).mono ?_); rintro e w1 ⟨rfl, hb1⟩); replace HB := Lib.hid (HB.out.trans (hb1.mono HB.out.size)); replace kx := Lib.hid (kx.out.keep hb1); replace ky := Lib.hid (ky.out.keep hb1); clear hb1)
        have y0 := ky.out.cell (i := 0) rfl
        have y1 := ky.out.cell (i := 1) rfl
        have y2 := ky.out.cell (i := 2) rfl
        have y3 := ky.out.cell (i := 3) rfl
        have y4 := ky.out.cell (i := 4) rfl
        have y5 := ky.out.cell (i := 5) rfl
        go_wp2_with fail
        clear y0 y1 y2 y3 y4 y5
        (((with_reducible refine (R2.out _).mono ?_); rintro e w2 ⟨rfl, hb2⟩); replace HB := Lib.hid (HB.out.trans (hb2.mono HB.out.size)); replace kx := Lib.hid (kx.out.keep hb2); replace ky := Lib.hid (ky.out.keep hb2); clear hb2)
        have x0 := kx.out.cell (i := 0) rfl
        have x1 := kx.out.cell (i := 1) rfl
        have x2 := kx.out.cell (i := 2) rfl
        have x3 := kx.out.cell (i := 3) rfl
        have x4 := kx.out.cell (i := 4) rfl
        have x5 := kx.out.cell (i := 5) rfl
        have y0 := ky.out.cell (i := 0) rfl
        have y1 := ky.out.cell (i := 1) rfl
        have y2 := ky.out.cell (i := 2) rfl
        have y3 := ky.out.cell (i := 3) rfl
        have y4 := ky.out.cell (i := 4) rfl
        have y5 := ky.out.cell (i := 5) rfl
        go_wp2_with fail
        have hbp := below_new1 w2 (.cells #[.int .i64 d1, .int .i64 d2, .int .i64 e1, .int .i64 e2, .int .i64 f1, .int .i64 f2] 23)
        replace kx := Lib.hid (kx.out.keep hbp)
        replace ky := Lib.hid (ky.out.keep hbp)
        have zp : (w2.alloc (.cells #[.int .i64 d1, .int .i64 d2, .int .i64 e1, .int .i64 e2, .int .i64 f1, .int .i64 f2] 23)).heap.size = w2.heap.size + 1 := by simp
        replace HB := Lib.hid (HB.out.trans (hbp.mono HB.out.size))
        have kp := Lib.hid (Lok.new w2 23 #[.int .i64 d1, .int .i64 d2, .int .i64 e1, .int .i64 e2, .int .i64 f1, .int .i64 f2])
        clear hbp
        generalize w2.alloc (.cells #[.int .i64 d1, .int .i64 d2, .int .i64 e1, .int .i64 e2, .int .i64 f1, .int .i64 f2] 23) = Vp at *
        clear zp
        clear x0 x1 x2 x3 x4 x5 y0 y1 y2 y3 y4 y5
        (((with_reducible refine (P1.out _ _ _ kp.out).mono ?_); rintro e w3 ⟨rfl, hb3⟩); replace HB := Lib.hid (HB.out.trans (hb3.mono HB.out.size)); replace kx := Lib.hid (kx.out.keep hb3); replace ky := Lib.hid (ky.out.keep hb3); clear hb3)
        clear kp
        have x0 := kx.out.cell (i := 0) rfl
        have x1 := kx.out.cell (i := 1) rfl
        have x2 := kx.out.cell (i := 2) rfl
        have x3 := kx.out.cell (i := 3) rfl
        have x4 := kx.out.cell (i := 4) rfl
        have x5 := kx.out.cell (i := 5) rfl
        have y0 := ky.out.cell (i := 0) rfl
        have y1 := ky.out.cell (i := 1) rfl
        have y2 := ky.out.cell (i := 2) rfl
        have y3 := ky.out.cell (i := 3) rfl
        have y4 := ky.out.cell (i := 4) rfl
        have y5 := ky.out.cell (i := 5) rfl
        go_wp2_with fail
        have hbq := below_new1 w3 (.cells #[.int .i64 a1, .int .i64 a2, .int .i64 b1, .int .i64 b2, .int .i64 c1, .int .i64 c2] 23)
        replace kx := Lib.hid (kx.out.keep hbq)
        replace ky := Lib.hid (ky.out.keep hbq)
        have zq : (w3.alloc (.cells #[.int .i64 a1, .int .i64 a2, .int .i64 b1, .int .i64 b2, .int .i64 c1, .int .i64 c2] 23)).heap.size = w3.heap.size + 1 := by simp
        replace HB := Lib.hid (HB.out.trans (hbq.mono HB.out.size))
        have kq := Lib.hid (Lok.new w3 23 #[.int .i64 a1, .int .i64 a2, .int .i64 b1, .int .i64 b2, .int .i64 c1, .int .i64 c2])
        clear hbq
        generalize w3.alloc (.cells #[.int .i64 a1, .int .i64 a2, .int .i64 b1, .int .i64 b2, .int .i64 c1, .int .i64 c2] 23) = Vq at *
        clear zq
        clear x0 x1 x2 x3 x4 x5 y0 y1 y2 y3 y4 y5
        (((with_reducible refine (P2.out _ _ _ kq.out).mono ?_); rintro e w4 ⟨rfl, hb4⟩); replace HB := Lib.hid (HB.out.trans (hb4.mono HB.out.size)); clear hb4)
        clear kq
        go_wp2
        go_ret2
        exact ⟨rfl, HB.out⟩
set_option maxRecDepth 100000 in
set_option maxHeartbeats 4000000 in
theorem rsquare_any (x y s a1 a2 b1 b2 c1 c2 : Int) (w : World) :
    Calls Try.prog 15 #[.agg #[.int .i64 x, .int .i64 y], .int .i64 s, .agg #[.int .i64 a1, .int .i64 a2, .int .i64 b1, .int .i64 b2, .int .i64 c1, .int .i64 c2]] w fun e' w' => e' = .returned (.tuple #[.bool (sqV x y s a1 a2 b1 b2 c1 c2), .int .i64 (sqE (sqS x y s) (rT a1 a2 b1 b2 c1 c2))]) ∧ Below w.heap.size w w' := by
  have HB := Lib.hid (Below.refl w.heap.size w)
  have R1 := Lib.hid (fun W => rright_any a1 a2 b1 b2 c1 c2 W)
  have SP := Lib.hid (fun W => rsmall2_any x y W)
  by_cases h1 : 1 ≤ s
  · by_cases h2 : s ≤ 4096
    · have d1 : decide (s < 1) = false := decide_eq_false (by omega)
      have d2 : decide (4096 < s) = false := decide_eq_false (by omega)
      cases hp : s2 x y with
      | false =>
        rw [hp] at SP
        obtain ⟨e1, e2⟩ := sq_off (rT a1 a2 b1 b2 c1 c2) (show sqS x y s = false from by unfold sqS; rw [hp]; simp) a1 a2 b1 b2 c1 c2
        rw [e1, e2]
        clear e1 e2 hp R1
        go_enter Try.func15, Try.ntmps15
        go_upto_region 1 with fail
        have hbp := below_new1 w (.cells #[.int .i64 x, .int .i64 y] 23)
        have zp : (w.alloc (.cells #[.int .i64 x, .int .i64 y] 23)).heap.size = w.heap.size + 1 := by simp
        have HB := Lib.hid hbp
        have kp := Lib.hid (Lok.new w 23 #[.int .i64 x, .int .i64 y])
        clear hbp
        generalize w.alloc (.cells #[.int .i64 x, .int .i64 y] 23) = Vp at *
        have hbt := below_new1 Vp (.cells #[.int .i64 a1, .int .i64 a2, .int .i64 b1, .int .i64 b2, .int .i64 c1, .int .i64 c2] 24)
        replace kp := Lib.hid (kp.out.keep hbt)
        have zt : (Vp.alloc (.cells #[.int .i64 a1, .int .i64 a2, .int .i64 b1, .int .i64 b2, .int .i64 c1, .int .i64 c2] 24)).heap.size = Vp.heap.size + 1 := by simp
        replace HB := Lib.hid (HB.out.trans (hbt.mono HB.out.size))
        have kt := Lib.hid (Lok.new Vp 24 #[.int .i64 a1, .int .i64 a2, .int .i64 b1, .int .i64 b2, .int .i64 c1, .int .i64 c2])
        clear hbt
        generalize Vp.alloc (.cells #[.int .i64 a1, .int .i64 a2, .int .i64 b1, .int .i64 b2, .int .i64 c1, .int .i64 c2] 24) = Vt at *
        rw [zp] at kt
        clear zp zt
        have p0 := kp.out.cell (i := 0) rfl
        have p1 := kp.out.cell (i := 1) rfl
        go_wp2_with fail
        clear p0 p1
        (((with_reducible refine (SP.out _).mono ?_); rintro e w1 ⟨rfl, hb1⟩); replace HB := Lib.hid (HB.out.trans (hb1.mono HB.out.size)); replace kp := Lib.hid (kp.out.keep hb1); replace kt := Lib.hid (kt.out.keep hb1); clear hb1)
        go_wp2
        go_ret2
        exact ⟨rfl, HB.out⟩
      | true =>
        rw [hp] at SP
        have bd := s2_iff.1 hp
        unfold SM at bd
        obtain ⟨fx, wx⟩ : ∃ v, IntKind.i64.wrap (x + s) = v := ⟨_, rfl⟩
        obtain ⟨fy, wy⟩ : ∃ v, IntKind.i64.wrap (y + s) = v := ⟨_, rfl⟩
        have ex : fx = x + s := wx.symm.trans (IntWalk.i64_in _ (by omega))
        have ey : fy = y + s := wy.symm.trans (IntWalk.i64_in _ (by omega))
        have SQ := Lib.hid (fun W => rsmall2_any fx fy W)
        cases hq : s2 fx fy with
        | false =>
          rw [hq] at SQ
          obtain ⟨e1, e2⟩ := sq_off (rT a1 a2 b1 b2 c1 c2) (show sqS x y s = false from by unfold sqS; rw [← ex, ← ey, hq]; simp) a1 a2 b1 b2 c1 c2
          rw [e1, e2]
          clear e1 e2 hp hq R1 bd ex ey
          go_enter Try.func15, Try.ntmps15
          go_upto_region 1 with fail
          have hbp := below_new1 w (.cells #[.int .i64 x, .int .i64 y] 23)
          have zp : (w.alloc (.cells #[.int .i64 x, .int .i64 y] 23)).heap.size = w.heap.size + 1 := by simp
          have HB := Lib.hid hbp
          have kp := Lib.hid (Lok.new w 23 #[.int .i64 x, .int .i64 y])
          clear hbp
          generalize w.alloc (.cells #[.int .i64 x, .int .i64 y] 23) = Vp at *
          have hbt := below_new1 Vp (.cells #[.int .i64 a1, .int .i64 a2, .int .i64 b1, .int .i64 b2, .int .i64 c1, .int .i64 c2] 24)
          replace kp := Lib.hid (kp.out.keep hbt)
          have zt : (Vp.alloc (.cells #[.int .i64 a1, .int .i64 a2, .int .i64 b1, .int .i64 b2, .int .i64 c1, .int .i64 c2] 24)).heap.size = Vp.heap.size + 1 := by simp
          replace HB := Lib.hid (HB.out.trans (hbt.mono HB.out.size))
          have kt := Lib.hid (Lok.new Vp 24 #[.int .i64 a1, .int .i64 a2, .int .i64 b1, .int .i64 b2, .int .i64 c1, .int .i64 c2])
          clear hbt
          generalize Vp.alloc (.cells #[.int .i64 a1, .int .i64 a2, .int .i64 b1, .int .i64 b2, .int .i64 c1, .int .i64 c2] 24) = Vt at *
          rw [zp] at kt
          clear zp zt
          have p0 := kp.out.cell (i := 0) rfl
          have p1 := kp.out.cell (i := 1) rfl
          go_wp2_with fail
          clear p0 p1
          (((with_reducible refine (SP.out _).mono ?_); rintro e w1 ⟨rfl, hb1⟩); replace HB := Lib.hid (HB.out.trans (hb1.mono HB.out.size)); replace kp := Lib.hid (kp.out.keep hb1); replace kt := Lib.hid (kt.out.keep hb1); clear hb1)
          have p0 := kp.out.cell (i := 0) rfl
          have p1 := kp.out.cell (i := 1) rfl
          go_upto_region 4 with fail
          have hbf := below_new1 w1 (.cells #[.int .i64 fx, .int .i64 fy] 23)
          replace kp := Lib.hid (kp.out.keep hbf)
          replace kt := Lib.hid (kt.out.keep hbf)
          have zf : (w1.alloc (.cells #[.int .i64 fx, .int .i64 fy] 23)).heap.size = w1.heap.size + 1 := by simp
          replace HB := Lib.hid (HB.out.trans (hbf.mono HB.out.size))
          have kf := Lib.hid (Lok.new w1 23 #[.int .i64 fx, .int .i64 fy])
          clear hbf
          generalize w1.alloc (.cells #[.int .i64 fx, .int .i64 fy] 23) = Vf at *
          clear zf
          generalize w1.heap.size = gf at *
          clear p0 p1
          have f0 := kf.out.cell (i := 0) rfl
          have f1 := kf.out.cell (i := 1) rfl
          go_wp2_with fail
          clear f0 f1
          (((with_reducible refine (SQ.out _).mono ?_); rintro e w2 ⟨rfl, hb2⟩); replace HB := Lib.hid (HB.out.trans (hb2.mono HB.out.size)); replace kp := Lib.hid (kp.out.keep hb2); replace kt := Lib.hid (kt.out.keep hb2); replace kf := Lib.hid (kf.out.keep hb2); clear hb2)
          go_wp2
          go_ret2
          exact ⟨rfl, HB.out⟩
        | true =>
          rw [hq] at SQ
          have eS : sqS x y s = true := sqS_iff.2 ⟨h1, h2, hp, by rw [← ex, ← ey]; exact hq⟩
          unfold sqV sqE
          rw [eS, ← ex, ← ey]
          clear eS bd ex ey
          cases ha : rT a1 a2 b1 b2 c1 c2 with
          | false =>
            rw [ha] at R1
            show Calls _ _ _ _ fun e' w' => e' = .returned (.tuple #[.bool false, .int .i64 1]) ∧ _
            clear ha hp hq
            go_enter Try.func15, Try.ntmps15
            go_upto_region 1 with fail
            have hbp := below_new1 w (.cells #[.int .i64 x, .int .i64 y] 23)
            have zp : (w.alloc (.cells #[.int .i64 x, .int .i64 y] 23)).heap.size = w.heap.size + 1 := by simp
            have HB := Lib.hid hbp
            have kp := Lib.hid (Lok.new w 23 #[.int .i64 x, .int .i64 y])
            clear hbp
            generalize w.alloc (.cells #[.int .i64 x, .int .i64 y] 23) = Vp at *
            have hbt := below_new1 Vp (.cells #[.int .i64 a1, .int .i64 a2, .int .i64 b1, .int .i64 b2, .int .i64 c1, .int .i64 c2] 24)
            replace kp := Lib.hid (kp.out.keep hbt)
            have zt : (Vp.alloc (.cells #[.int .i64 a1, .int .i64 a2, .int .i64 b1, .int .i64 b2, .int .i64 c1, .int .i64 c2] 24)).heap.size = Vp.heap.size + 1 := by simp
            replace HB := Lib.hid (HB.out.trans (hbt.mono HB.out.size))
            have kt := Lib.hid (Lok.new Vp 24 #[.int .i64 a1, .int .i64 a2, .int .i64 b1, .int .i64 b2, .int .i64 c1, .int .i64 c2])
            clear hbt
            generalize Vp.alloc (.cells #[.int .i64 a1, .int .i64 a2, .int .i64 b1, .int .i64 b2, .int .i64 c1, .int .i64 c2] 24) = Vt at *
            rw [zp] at kt
            clear zp zt
            have p0 := kp.out.cell (i := 0) rfl
            have p1 := kp.out.cell (i := 1) rfl
            go_wp2_with fail
            clear p0 p1
            (((with_reducible refine (SP.out _).mono ?_); rintro e w1 ⟨rfl, hb1⟩); replace HB := Lib.hid (HB.out.trans (hb1.mono HB.out.size)); replace kp := Lib.hid (kp.out.keep hb1); replace kt := Lib.hid (kt.out.keep hb1); clear hb1)
            have p0 := kp.out.cell (i := 0) rfl
            have p1 := kp.out.cell (i := 1) rfl
            go_upto_region 4 with fail
            have hbf := below_new1 w1 (.cells #[.int .i64 fx, .int .i64 fy] 23)
            replace kp := Lib.hid (kp.out.keep hbf)
            replace kt := Lib.hid (kt.out.keep hbf)
            have zf : (w1.alloc (.cells #[.int .i64 fx, .int .i64 fy] 23)).heap.size = w1.heap.size + 1 := by simp
            replace HB := Lib.hid (HB.out.trans (hbf.mono HB.out.size))
            have kf := Lib.hid (Lok.new w1 23 #[.int .i64 fx, .int .i64 fy])
            clear hbf
            generalize w1.alloc (.cells #[.int .i64 fx, .int .i64 fy] 23) = Vf at *
            clear zf
            generalize w1.heap.size = gf at *
            clear p0 p1
            have f0 := kf.out.cell (i := 0) rfl
            have f1 := kf.out.cell (i := 1) rfl
            go_wp2_with fail
            clear f0 f1
            (((with_reducible refine (SQ.out _).mono ?_); rintro e w2 ⟨rfl, hb2⟩); replace HB := Lib.hid (HB.out.trans (hb2.mono HB.out.size)); replace kp := Lib.hid (kp.out.keep hb2); replace kt := Lib.hid (kt.out.keep hb2); replace kf := Lib.hid (kf.out.keep hb2); clear hb2)
            have t0 := kt.out.cell (i := 0) rfl
            have t1 := kt.out.cell (i := 1) rfl
            have t2 := kt.out.cell (i := 2) rfl
            have t3 := kt.out.cell (i := 3) rfl
            have t4 := kt.out.cell (i := 4) rfl
            have t5 := kt.out.cell (i := 5) rfl
            go_wp2_with fail
            clear t0 t1 t2 t3 t4 t5
            (((with_reducible refine (R1.out _).mono ?_); rintro e w3 ⟨rfl, hb3⟩); replace HB := Lib.hid (HB.out.trans (hb3.mono HB.out.size)); replace kp := Lib.hid (kp.out.keep hb3); replace kt := Lib.hid (kt.out.keep hb3); replace kf := Lib.hid (kf.out.keep hb3); clear hb3)
            go_wp2
            go_ret2
            exact ⟨rfl, HB.out⟩
          | true =>
            rw [ha] at R1
            show Calls _ _ _ _ fun e' w' => e' = .returned (.tuple #[.bool (cB x y fx fy a1 a2 b1 b2 c1 c2 && (r4 a1 a2 b1 b2 c1 c2 x y fx y fx fy x fy != -1)), .int .i64 0]) ∧ _
            obtain ⟨hl, hr⟩ := s2_corner hp hq
            have PA := Lib.hid (fun g T W h => rparted_4 a1 a2 b1 b2 c1 c2 x y fx y fx fy x fy ha hp hl hq hr g T W h)
            generalize r4 a1 a2 b1 b2 c1 c2 x y fx y fx fy x fy = m at *
            unfold cB
            obtain ⟨lx, e1⟩ : ∃ v, min (min a1 b1) c1 = v := ⟨_, rfl⟩
            obtain ⟨ly, e2⟩ : ∃ v, min (min a2 b2) c2 = v := ⟨_, rfl⟩
            obtain ⟨hx, e3⟩ : ∃ v, max (max a1 b1) c1 = v := ⟨_, rfl⟩
            obtain ⟨hy, e4⟩ : ∃ v, max (max a2 b2) c2 = v := ⟨_, rfl⟩
            rw [e1, e2, e3, e4]
            clear ha hp hq hl hr
            by_cases h10 : lx ≤ fx
            · have n0 : decide (fx < lx) = false := decide_eq_false (by omega)
              by_cases h11 : ly ≤ fy
              · have n1 : decide (fy < ly) = false := decide_eq_false (by omega)
                by_cases h12 : x ≤ hx
                · have n2 : decide (hx < x) = false := decide_eq_false (by omega)
                  by_cases h13 : y ≤ hy
                  · have n3 : decide (hy < y) = false := decide_eq_false (by omega)
                    rw [decide_eq_true h10, decide_eq_true h11, decide_eq_true h12, decide_eq_true h13]
                    show Calls _ _ _ _ fun e' w' => e' = .returned (.tuple #[.bool (!(m == -1)), .int .i64 0]) ∧ _
                    go_enter Try.func15, Try.ntmps15
                    go_upto_region 1 with fail
                    have hbp := below_new1 w (.cells #[.int .i64 x, .int .i64 y] 23)
                    have zp : (w.alloc (.cells #[.int .i64 x, .int .i64 y] 23)).heap.size = w.heap.size + 1 := by simp
                    have HB := Lib.hid hbp
                    have kp := Lib.hid (Lok.new w 23 #[.int .i64 x, .int .i64 y])
                    clear hbp
                    generalize w.alloc (.cells #[.int .i64 x, .int .i64 y] 23) = Vp at *
                    have hbt := below_new1 Vp (.cells #[.int .i64 a1, .int .i64 a2, .int .i64 b1, .int .i64 b2, .int .i64 c1, .int .i64 c2] 24)
                    replace kp := Lib.hid (kp.out.keep hbt)
                    have zt : (Vp.alloc (.cells #[.int .i64 a1, .int .i64 a2, .int .i64 b1, .int .i64 b2, .int .i64 c1, .int .i64 c2] 24)).heap.size = Vp.heap.size + 1 := by simp
                    replace HB := Lib.hid (HB.out.trans (hbt.mono HB.out.size))
                    have kt := Lib.hid (Lok.new Vp 24 #[.int .i64 a1, .int .i64 a2, .int .i64 b1, .int .i64 b2, .int .i64 c1, .int .i64 c2])
                    clear hbt
                    generalize Vp.alloc (.cells #[.int .i64 a1, .int .i64 a2, .int .i64 b1, .int .i64 b2, .int .i64 c1, .int .i64 c2] 24) = Vt at *
                    rw [zp] at kt
                    clear zp zt
                    have p0 := kp.out.cell (i := 0) rfl
                    have p1 := kp.out.cell (i := 1) rfl
                    go_wp2_with fail
                    clear p0 p1
                    (((with_reducible refine (SP.out _).mono ?_); rintro e w1 ⟨rfl, hb1⟩); replace HB := Lib.hid (HB.out.trans (hb1.mono HB.out.size)); replace kp := Lib.hid (kp.out.keep hb1); replace kt := Lib.hid (kt.out.keep hb1); clear hb1)
                    have p0 := kp.out.cell (i := 0) rfl
                    have p1 := kp.out.cell (i := 1) rfl
                    go_upto_region 4 with fail
                    have hbf := below_new1 w1 (.cells #[.int .i64 fx, .int .i64 fy] 23)
                    replace kp := Lib.hid (kp.out.keep hbf)
                    replace kt := Lib.hid (kt.out.keep hbf)
                    have zf : (w1.alloc (.cells #[.int .i64 fx, .int .i64 fy] 23)).heap.size = w1.heap.size + 1 := by simp
                    replace HB := Lib.hid (HB.out.trans (hbf.mono HB.out.size))
                    have kf := Lib.hid (Lok.new w1 23 #[.int .i64 fx, .int .i64 fy])
                    clear hbf
                    generalize w1.alloc (.cells #[.int .i64 fx, .int .i64 fy] 23) = Vf at *
                    clear zf
                    generalize w1.heap.size = gf at *
                    clear p0 p1
                    have f0 := kf.out.cell (i := 0) rfl
                    have f1 := kf.out.cell (i := 1) rfl
                    go_wp2_with fail
                    clear f0 f1
                    (((with_reducible refine (SQ.out _).mono ?_); rintro e w2 ⟨rfl, hb2⟩); replace HB := Lib.hid (HB.out.trans (hb2.mono HB.out.size)); replace kp := Lib.hid (kp.out.keep hb2); replace kt := Lib.hid (kt.out.keep hb2); replace kf := Lib.hid (kf.out.keep hb2); clear hb2)
                    have t0 := kt.out.cell (i := 0) rfl
                    have t1 := kt.out.cell (i := 1) rfl
                    have t2 := kt.out.cell (i := 2) rfl
                    have t3 := kt.out.cell (i := 3) rfl
                    have t4 := kt.out.cell (i := 4) rfl
                    have t5 := kt.out.cell (i := 5) rfl
                    go_wp2_with fail
                    clear t0 t1 t2 t3 t4 t5
                    (((with_reducible refine (R1.out _).mono ?_); rintro e w3 ⟨rfl, hb3⟩); replace HB := Lib.hid (HB.out.trans (hb3.mono HB.out.size)); replace kp := Lib.hid (kp.out.keep hb3); replace kt := Lib.hid (kt.out.keep hb3); replace kf := Lib.hid (kf.out.keep hb3); clear hb3)
                    have p0 := kp.out.cell (i := 0) rfl
                    have p1 := kp.out.cell (i := 1) rfl
                    have f0 := kf.out.cell (i := 0) rfl
                    have f1 := kf.out.cell (i := 1) rfl
                    have t0 := kt.out.cell (i := 0) rfl
                    have t1 := kt.out.cell (i := 1) rfl
                    have t2 := kt.out.cell (i := 2) rfl
                    have t3 := kt.out.cell (i := 3) rfl
                    have t4 := kt.out.cell (i := 4) rfl
                    have t5 := kt.out.cell (i := 5) rfl
                    go_wp2_with fail
                    have hbo := below_new1 w3 (.cells #[.int .i64 x, .int .i64 y, .int .i64 fx, .int .i64 y, .int .i64 fx, .int .i64 fy, .int .i64 x, .int .i64 fy] 23)
                    have zo : (w3.alloc (.cells #[.int .i64 x, .int .i64 y, .int .i64 fx, .int .i64 y, .int .i64 fx, .int .i64 fy, .int .i64 x, .int .i64 fy] 23)).heap.size = w3.heap.size + 1 := by simp
                    replace HB := Lib.hid (HB.out.trans (hbo.mono HB.out.size))
                    have ko := Lib.hid (Lok.new w3 23 #[.int .i64 x, .int .i64 y, .int .i64 fx, .int .i64 y, .int .i64 fx, .int .i64 fy, .int .i64 x, .int .i64 fy])
                    clear hbo
                    generalize w3.alloc (.cells #[.int .i64 x, .int .i64 y, .int .i64 fx, .int .i64 y, .int .i64 fx, .int .i64 fy, .int .i64 x, .int .i64 fy] 23) = Vo at *
                    clear zo
                    clear p0 p1 f0 f1 t0 t1 t2 t3 t4 t5
                    (((with_reducible refine (PA.out _ _ _ ko.out).mono ?_); rintro e w4 ⟨rfl, hb4⟩); replace HB := Lib.hid (HB.out.trans (hb4.mono HB.out.size)); clear hb4)
                    go_wp2
                    go_ret2
                    exact ⟨rfl, HB.out⟩
                  · have n3 : decide (hy < y) = true := decide_eq_true (by omega)
                    rw [show (decide (lx ≤ fx) && decide (ly ≤ fy) && decide (x ≤ hx) && decide (y ≤ hy) && (m != -1)) = false from by rw [decide_eq_false h13]; simp]
                    go_enter Try.func15, Try.ntmps15
                    go_upto_region 1 with fail
                    have hbp := below_new1 w (.cells #[.int .i64 x, .int .i64 y] 23)
                    have zp : (w.alloc (.cells #[.int .i64 x, .int .i64 y] 23)).heap.size = w.heap.size + 1 := by simp
                    have HB := Lib.hid hbp
                    have kp := Lib.hid (Lok.new w 23 #[.int .i64 x, .int .i64 y])
                    clear hbp
                    generalize w.alloc (.cells #[.int .i64 x, .int .i64 y] 23) = Vp at *
                    have hbt := below_new1 Vp (.cells #[.int .i64 a1, .int .i64 a2, .int .i64 b1, .int .i64 b2, .int .i64 c1, .int .i64 c2] 24)
                    replace kp := Lib.hid (kp.out.keep hbt)
                    have zt : (Vp.alloc (.cells #[.int .i64 a1, .int .i64 a2, .int .i64 b1, .int .i64 b2, .int .i64 c1, .int .i64 c2] 24)).heap.size = Vp.heap.size + 1 := by simp
                    replace HB := Lib.hid (HB.out.trans (hbt.mono HB.out.size))
                    have kt := Lib.hid (Lok.new Vp 24 #[.int .i64 a1, .int .i64 a2, .int .i64 b1, .int .i64 b2, .int .i64 c1, .int .i64 c2])
                    clear hbt
                    generalize Vp.alloc (.cells #[.int .i64 a1, .int .i64 a2, .int .i64 b1, .int .i64 b2, .int .i64 c1, .int .i64 c2] 24) = Vt at *
                    rw [zp] at kt
                    clear zp zt
                    have p0 := kp.out.cell (i := 0) rfl
                    have p1 := kp.out.cell (i := 1) rfl
                    go_wp2_with fail
                    clear p0 p1
                    (((with_reducible refine (SP.out _).mono ?_); rintro e w1 ⟨rfl, hb1⟩); replace HB := Lib.hid (HB.out.trans (hb1.mono HB.out.size)); replace kp := Lib.hid (kp.out.keep hb1); replace kt := Lib.hid (kt.out.keep hb1); clear hb1)
                    have p0 := kp.out.cell (i := 0) rfl
                    have p1 := kp.out.cell (i := 1) rfl
                    go_upto_region 4 with fail
                    have hbf := below_new1 w1 (.cells #[.int .i64 fx, .int .i64 fy] 23)
                    replace kp := Lib.hid (kp.out.keep hbf)
                    replace kt := Lib.hid (kt.out.keep hbf)
                    have zf : (w1.alloc (.cells #[.int .i64 fx, .int .i64 fy] 23)).heap.size = w1.heap.size + 1 := by simp
                    replace HB := Lib.hid (HB.out.trans (hbf.mono HB.out.size))
                    have kf := Lib.hid (Lok.new w1 23 #[.int .i64 fx, .int .i64 fy])
                    clear hbf
                    generalize w1.alloc (.cells #[.int .i64 fx, .int .i64 fy] 23) = Vf at *
                    clear zf
                    generalize w1.heap.size = gf at *
                    clear p0 p1
                    have f0 := kf.out.cell (i := 0) rfl
                    have f1 := kf.out.cell (i := 1) rfl
                    go_wp2_with fail
                    clear f0 f1
                    (((with_reducible refine (SQ.out _).mono ?_); rintro e w2 ⟨rfl, hb2⟩); replace HB := Lib.hid (HB.out.trans (hb2.mono HB.out.size)); replace kp := Lib.hid (kp.out.keep hb2); replace kt := Lib.hid (kt.out.keep hb2); replace kf := Lib.hid (kf.out.keep hb2); clear hb2)
                    have t0 := kt.out.cell (i := 0) rfl
                    have t1 := kt.out.cell (i := 1) rfl
                    have t2 := kt.out.cell (i := 2) rfl
                    have t3 := kt.out.cell (i := 3) rfl
                    have t4 := kt.out.cell (i := 4) rfl
                    have t5 := kt.out.cell (i := 5) rfl
                    go_wp2_with fail
                    clear t0 t1 t2 t3 t4 t5
                    (((with_reducible refine (R1.out _).mono ?_); rintro e w3 ⟨rfl, hb3⟩); replace HB := Lib.hid (HB.out.trans (hb3.mono HB.out.size)); replace kp := Lib.hid (kp.out.keep hb3); replace kt := Lib.hid (kt.out.keep hb3); replace kf := Lib.hid (kf.out.keep hb3); clear hb3)
                    have p0 := kp.out.cell (i := 0) rfl
                    have p1 := kp.out.cell (i := 1) rfl
                    have f0 := kf.out.cell (i := 0) rfl
                    have f1 := kf.out.cell (i := 1) rfl
                    have t0 := kt.out.cell (i := 0) rfl
                    have t1 := kt.out.cell (i := 1) rfl
                    have t2 := kt.out.cell (i := 2) rfl
                    have t3 := kt.out.cell (i := 3) rfl
                    have t4 := kt.out.cell (i := 4) rfl
                    have t5 := kt.out.cell (i := 5) rfl
                    clear PA
                    go_wp2
                    go_ret2
                    exact ⟨rfl, HB.out⟩
                · have n2 : decide (hx < x) = true := decide_eq_true (by omega)
                  rw [show (decide (lx ≤ fx) && decide (ly ≤ fy) && decide (x ≤ hx) && decide (y ≤ hy) && (m != -1)) = false from by rw [decide_eq_false h12]; simp]
                  go_enter Try.func15, Try.ntmps15
                  go_upto_region 1 with fail
                  have hbp := below_new1 w (.cells #[.int .i64 x, .int .i64 y] 23)
                  have zp : (w.alloc (.cells #[.int .i64 x, .int .i64 y] 23)).heap.size = w.heap.size + 1 := by simp
                  have HB := Lib.hid hbp
                  have kp := Lib.hid (Lok.new w 23 #[.int .i64 x, .int .i64 y])
                  clear hbp
                  generalize w.alloc (.cells #[.int .i64 x, .int .i64 y] 23) = Vp at *
                  have hbt := below_new1 Vp (.cells #[.int .i64 a1, .int .i64 a2, .int .i64 b1, .int .i64 b2, .int .i64 c1, .int .i64 c2] 24)
                  replace kp := Lib.hid (kp.out.keep hbt)
                  have zt : (Vp.alloc (.cells #[.int .i64 a1, .int .i64 a2, .int .i64 b1, .int .i64 b2, .int .i64 c1, .int .i64 c2] 24)).heap.size = Vp.heap.size + 1 := by simp
                  replace HB := Lib.hid (HB.out.trans (hbt.mono HB.out.size))
                  have kt := Lib.hid (Lok.new Vp 24 #[.int .i64 a1, .int .i64 a2, .int .i64 b1, .int .i64 b2, .int .i64 c1, .int .i64 c2])
                  clear hbt
                  generalize Vp.alloc (.cells #[.int .i64 a1, .int .i64 a2, .int .i64 b1, .int .i64 b2, .int .i64 c1, .int .i64 c2] 24) = Vt at *
                  rw [zp] at kt
                  clear zp zt
                  have p0 := kp.out.cell (i := 0) rfl
                  have p1 := kp.out.cell (i := 1) rfl
                  go_wp2_with fail
                  clear p0 p1
                  (((with_reducible refine (SP.out _).mono ?_); rintro e w1 ⟨rfl, hb1⟩); replace HB := Lib.hid (HB.out.trans (hb1.mono HB.out.size)); replace kp := Lib.hid (kp.out.keep hb1); replace kt := Lib.hid (kt.out.keep hb1); clear hb1)
                  have p0 := kp.out.cell (i := 0) rfl
                  have p1 := kp.out.cell (i := 1) rfl
                  go_upto_region 4 with fail
                  have hbf := below_new1 w1 (.cells #[.int .i64 fx, .int .i64 fy] 23)
                  replace kp := Lib.hid (kp.out.keep hbf)
                  replace kt := Lib.hid (kt.out.keep hbf)
                  have zf : (w1.alloc (.cells #[.int .i64 fx, .int .i64 fy] 23)).heap.size = w1.heap.size + 1 := by simp
                  replace HB := Lib.hid (HB.out.trans (hbf.mono HB.out.size))
                  have kf := Lib.hid (Lok.new w1 23 #[.int .i64 fx, .int .i64 fy])
                  clear hbf
                  generalize w1.alloc (.cells #[.int .i64 fx, .int .i64 fy] 23) = Vf at *
                  clear zf
                  generalize w1.heap.size = gf at *
                  clear p0 p1
                  have f0 := kf.out.cell (i := 0) rfl
                  have f1 := kf.out.cell (i := 1) rfl
                  go_wp2_with fail
                  clear f0 f1
                  (((with_reducible refine (SQ.out _).mono ?_); rintro e w2 ⟨rfl, hb2⟩); replace HB := Lib.hid (HB.out.trans (hb2.mono HB.out.size)); replace kp := Lib.hid (kp.out.keep hb2); replace kt := Lib.hid (kt.out.keep hb2); replace kf := Lib.hid (kf.out.keep hb2); clear hb2)
                  have t0 := kt.out.cell (i := 0) rfl
                  have t1 := kt.out.cell (i := 1) rfl
                  have t2 := kt.out.cell (i := 2) rfl
                  have t3 := kt.out.cell (i := 3) rfl
                  have t4 := kt.out.cell (i := 4) rfl
                  have t5 := kt.out.cell (i := 5) rfl
                  go_wp2_with fail
                  clear t0 t1 t2 t3 t4 t5
                  (((with_reducible refine (R1.out _).mono ?_); rintro e w3 ⟨rfl, hb3⟩); replace HB := Lib.hid (HB.out.trans (hb3.mono HB.out.size)); replace kp := Lib.hid (kp.out.keep hb3); replace kt := Lib.hid (kt.out.keep hb3); replace kf := Lib.hid (kf.out.keep hb3); clear hb3)
                  have p0 := kp.out.cell (i := 0) rfl
                  have p1 := kp.out.cell (i := 1) rfl
                  have f0 := kf.out.cell (i := 0) rfl
                  have f1 := kf.out.cell (i := 1) rfl
                  have t0 := kt.out.cell (i := 0) rfl
                  have t1 := kt.out.cell (i := 1) rfl
                  have t2 := kt.out.cell (i := 2) rfl
                  have t3 := kt.out.cell (i := 3) rfl
                  have t4 := kt.out.cell (i := 4) rfl
                  have t5 := kt.out.cell (i := 5) rfl
                  clear PA
                  go_wp2
                  go_ret2
                  exact ⟨rfl, HB.out⟩
              · have n1 : decide (fy < ly) = true := decide_eq_true (by omega)
                rw [show (decide (lx ≤ fx) && decide (ly ≤ fy) && decide (x ≤ hx) && decide (y ≤ hy) && (m != -1)) = false from by rw [decide_eq_false h11]; simp]
                go_enter Try.func15, Try.ntmps15
                go_upto_region 1 with fail
                have hbp := below_new1 w (.cells #[.int .i64 x, .int .i64 y] 23)
                have zp : (w.alloc (.cells #[.int .i64 x, .int .i64 y] 23)).heap.size = w.heap.size + 1 := by simp
                have HB := Lib.hid hbp
                have kp := Lib.hid (Lok.new w 23 #[.int .i64 x, .int .i64 y])
                clear hbp
                generalize w.alloc (.cells #[.int .i64 x, .int .i64 y] 23) = Vp at *
                have hbt := below_new1 Vp (.cells #[.int .i64 a1, .int .i64 a2, .int .i64 b1, .int .i64 b2, .int .i64 c1, .int .i64 c2] 24)
                replace kp := Lib.hid (kp.out.keep hbt)
                have zt : (Vp.alloc (.cells #[.int .i64 a1, .int .i64 a2, .int .i64 b1, .int .i64 b2, .int .i64 c1, .int .i64 c2] 24)).heap.size = Vp.heap.size + 1 := by simp
                replace HB := Lib.hid (HB.out.trans (hbt.mono HB.out.size))
                have kt := Lib.hid (Lok.new Vp 24 #[.int .i64 a1, .int .i64 a2, .int .i64 b1, .int .i64 b2, .int .i64 c1, .int .i64 c2])
                clear hbt
                generalize Vp.alloc (.cells #[.int .i64 a1, .int .i64 a2, .int .i64 b1, .int .i64 b2, .int .i64 c1, .int .i64 c2] 24) = Vt at *
                rw [zp] at kt
                clear zp zt
                have p0 := kp.out.cell (i := 0) rfl
                have p1 := kp.out.cell (i := 1) rfl
                go_wp2_with fail
                clear p0 p1
                (((with_reducible refine (SP.out _).mono ?_); rintro e w1 ⟨rfl, hb1⟩); replace HB := Lib.hid (HB.out.trans (hb1.mono HB.out.size)); replace kp := Lib.hid (kp.out.keep hb1); replace kt := Lib.hid (kt.out.keep hb1); clear hb1)
                have p0 := kp.out.cell (i := 0) rfl
                have p1 := kp.out.cell (i := 1) rfl
                go_upto_region 4 with fail
                have hbf := below_new1 w1 (.cells #[.int .i64 fx, .int .i64 fy] 23)
                replace kp := Lib.hid (kp.out.keep hbf)
                replace kt := Lib.hid (kt.out.keep hbf)
                have zf : (w1.alloc (.cells #[.int .i64 fx, .int .i64 fy] 23)).heap.size = w1.heap.size + 1 := by simp
                replace HB := Lib.hid (HB.out.trans (hbf.mono HB.out.size))
                have kf := Lib.hid (Lok.new w1 23 #[.int .i64 fx, .int .i64 fy])
                clear hbf
                generalize w1.alloc (.cells #[.int .i64 fx, .int .i64 fy] 23) = Vf at *
                clear zf
                generalize w1.heap.size = gf at *
                clear p0 p1
                have f0 := kf.out.cell (i := 0) rfl
                have f1 := kf.out.cell (i := 1) rfl
                go_wp2_with fail
                clear f0 f1
                (((with_reducible refine (SQ.out _).mono ?_); rintro e w2 ⟨rfl, hb2⟩); replace HB := Lib.hid (HB.out.trans (hb2.mono HB.out.size)); replace kp := Lib.hid (kp.out.keep hb2); replace kt := Lib.hid (kt.out.keep hb2); replace kf := Lib.hid (kf.out.keep hb2); clear hb2)
                have t0 := kt.out.cell (i := 0) rfl
                have t1 := kt.out.cell (i := 1) rfl
                have t2 := kt.out.cell (i := 2) rfl
                have t3 := kt.out.cell (i := 3) rfl
                have t4 := kt.out.cell (i := 4) rfl
                have t5 := kt.out.cell (i := 5) rfl
                go_wp2_with fail
                clear t0 t1 t2 t3 t4 t5
                (((with_reducible refine (R1.out _).mono ?_); rintro e w3 ⟨rfl, hb3⟩); replace HB := Lib.hid (HB.out.trans (hb3.mono HB.out.size)); replace kp := Lib.hid (kp.out.keep hb3); replace kt := Lib.hid (kt.out.keep hb3); replace kf := Lib.hid (kf.out.keep hb3); clear hb3)
                have p0 := kp.out.cell (i := 0) rfl
                have p1 := kp.out.cell (i := 1) rfl
                have f0 := kf.out.cell (i := 0) rfl
                have f1 := kf.out.cell (i := 1) rfl
                have t0 := kt.out.cell (i := 0) rfl
                have t1 := kt.out.cell (i := 1) rfl
                have t2 := kt.out.cell (i := 2) rfl
                have t3 := kt.out.cell (i := 3) rfl
                have t4 := kt.out.cell (i := 4) rfl
                have t5 := kt.out.cell (i := 5) rfl
                clear PA
                go_wp2
                go_ret2
                exact ⟨rfl, HB.out⟩
            · have n0 : decide (fx < lx) = true := decide_eq_true (by omega)
              rw [show (decide (lx ≤ fx) && decide (ly ≤ fy) && decide (x ≤ hx) && decide (y ≤ hy) && (m != -1)) = false from by rw [decide_eq_false h10]; simp]
              go_enter Try.func15, Try.ntmps15
              go_upto_region 1 with fail
              have hbp := below_new1 w (.cells #[.int .i64 x, .int .i64 y] 23)
              have zp : (w.alloc (.cells #[.int .i64 x, .int .i64 y] 23)).heap.size = w.heap.size + 1 := by simp
              have HB := Lib.hid hbp
              have kp := Lib.hid (Lok.new w 23 #[.int .i64 x, .int .i64 y])
              clear hbp
              generalize w.alloc (.cells #[.int .i64 x, .int .i64 y] 23) = Vp at *
              have hbt := below_new1 Vp (.cells #[.int .i64 a1, .int .i64 a2, .int .i64 b1, .int .i64 b2, .int .i64 c1, .int .i64 c2] 24)
              replace kp := Lib.hid (kp.out.keep hbt)
              have zt : (Vp.alloc (.cells #[.int .i64 a1, .int .i64 a2, .int .i64 b1, .int .i64 b2, .int .i64 c1, .int .i64 c2] 24)).heap.size = Vp.heap.size + 1 := by simp
              replace HB := Lib.hid (HB.out.trans (hbt.mono HB.out.size))
              have kt := Lib.hid (Lok.new Vp 24 #[.int .i64 a1, .int .i64 a2, .int .i64 b1, .int .i64 b2, .int .i64 c1, .int .i64 c2])
              clear hbt
              generalize Vp.alloc (.cells #[.int .i64 a1, .int .i64 a2, .int .i64 b1, .int .i64 b2, .int .i64 c1, .int .i64 c2] 24) = Vt at *
              rw [zp] at kt
              clear zp zt
              have p0 := kp.out.cell (i := 0) rfl
              have p1 := kp.out.cell (i := 1) rfl
              go_wp2_with fail
              clear p0 p1
              (((with_reducible refine (SP.out _).mono ?_); rintro e w1 ⟨rfl, hb1⟩); replace HB := Lib.hid (HB.out.trans (hb1.mono HB.out.size)); replace kp := Lib.hid (kp.out.keep hb1); replace kt := Lib.hid (kt.out.keep hb1); clear hb1)
              have p0 := kp.out.cell (i := 0) rfl
              have p1 := kp.out.cell (i := 1) rfl
              go_upto_region 4 with fail
              have hbf := below_new1 w1 (.cells #[.int .i64 fx, .int .i64 fy] 23)
              replace kp := Lib.hid (kp.out.keep hbf)
              replace kt := Lib.hid (kt.out.keep hbf)
              have zf : (w1.alloc (.cells #[.int .i64 fx, .int .i64 fy] 23)).heap.size = w1.heap.size + 1 := by simp
              replace HB := Lib.hid (HB.out.trans (hbf.mono HB.out.size))
              have kf := Lib.hid (Lok.new w1 23 #[.int .i64 fx, .int .i64 fy])
              clear hbf
              generalize w1.alloc (.cells #[.int .i64 fx, .int .i64 fy] 23) = Vf at *
              clear zf
              generalize w1.heap.size = gf at *
              clear p0 p1
              have f0 := kf.out.cell (i := 0) rfl
              have f1 := kf.out.cell (i := 1) rfl
              go_wp2_with fail
              clear f0 f1
              (((with_reducible refine (SQ.out _).mono ?_); rintro e w2 ⟨rfl, hb2⟩); replace HB := Lib.hid (HB.out.trans (hb2.mono HB.out.size)); replace kp := Lib.hid (kp.out.keep hb2); replace kt := Lib.hid (kt.out.keep hb2); replace kf := Lib.hid (kf.out.keep hb2); clear hb2)
              have t0 := kt.out.cell (i := 0) rfl
              have t1 := kt.out.cell (i := 1) rfl
              have t2 := kt.out.cell (i := 2) rfl
              have t3 := kt.out.cell (i := 3) rfl
              have t4 := kt.out.cell (i := 4) rfl
              have t5 := kt.out.cell (i := 5) rfl
              go_wp2_with fail
              clear t0 t1 t2 t3 t4 t5
              (((with_reducible refine (R1.out _).mono ?_); rintro e w3 ⟨rfl, hb3⟩); replace HB := Lib.hid (HB.out.trans (hb3.mono HB.out.size)); replace kp := Lib.hid (kp.out.keep hb3); replace kt := Lib.hid (kt.out.keep hb3); replace kf := Lib.hid (kf.out.keep hb3); clear hb3)
              have p0 := kp.out.cell (i := 0) rfl
              have p1 := kp.out.cell (i := 1) rfl
              have f0 := kf.out.cell (i := 0) rfl
              have f1 := kf.out.cell (i := 1) rfl
              have t0 := kt.out.cell (i := 0) rfl
              have t1 := kt.out.cell (i := 1) rfl
              have t2 := kt.out.cell (i := 2) rfl
              have t3 := kt.out.cell (i := 3) rfl
              have t4 := kt.out.cell (i := 4) rfl
              have t5 := kt.out.cell (i := 5) rfl
              clear PA
              go_wp2
              go_ret2
              exact ⟨rfl, HB.out⟩
    · have d1 : decide (s < 1) = false := decide_eq_false (by omega)
      have d2 : decide (4096 < s) = true := decide_eq_true (by omega)
      obtain ⟨e1, e2⟩ := sq_off (rT a1 a2 b1 b2 c1 c2) (show sqS x y s = false from by unfold sqS; rw [decide_eq_false h2]; simp) a1 a2 b1 b2 c1 c2
      rw [e1, e2]
      clear e1 e2 R1
      go_enter Try.func15, Try.ntmps15
      go_upto_region 1 with fail
      have hbp := below_new1 w (.cells #[.int .i64 x, .int .i64 y] 23)
      have zp : (w.alloc (.cells #[.int .i64 x, .int .i64 y] 23)).heap.size = w.heap.size + 1 := by simp
      have HB := Lib.hid hbp
      have kp := Lib.hid (Lok.new w 23 #[.int .i64 x, .int .i64 y])
      clear hbp
      generalize w.alloc (.cells #[.int .i64 x, .int .i64 y] 23) = Vp at *
      have hbt := below_new1 Vp (.cells #[.int .i64 a1, .int .i64 a2, .int .i64 b1, .int .i64 b2, .int .i64 c1, .int .i64 c2] 24)
      replace kp := Lib.hid (kp.out.keep hbt)
      have zt : (Vp.alloc (.cells #[.int .i64 a1, .int .i64 a2, .int .i64 b1, .int .i64 b2, .int .i64 c1, .int .i64 c2] 24)).heap.size = Vp.heap.size + 1 := by simp
      replace HB := Lib.hid (HB.out.trans (hbt.mono HB.out.size))
      have kt := Lib.hid (Lok.new Vp 24 #[.int .i64 a1, .int .i64 a2, .int .i64 b1, .int .i64 b2, .int .i64 c1, .int .i64 c2])
      clear hbt
      generalize Vp.alloc (.cells #[.int .i64 a1, .int .i64 a2, .int .i64 b1, .int .i64 b2, .int .i64 c1, .int .i64 c2] 24) = Vt at *
      rw [zp] at kt
      clear zp zt
      have p0 := kp.out.cell (i := 0) rfl
      have p1 := kp.out.cell (i := 1) rfl
      go_wp2
      go_ret2
      exact ⟨rfl, HB.out⟩
  · have d1 : decide (s < 1) = true := decide_eq_true (by omega)
    obtain ⟨e1, e2⟩ := sq_off (rT a1 a2 b1 b2 c1 c2) (show sqS x y s = false from by unfold sqS; rw [decide_eq_false h1]; simp) a1 a2 b1 b2 c1 c2
    rw [e1, e2]
    clear e1 e2 R1
    go_enter Try.func15, Try.ntmps15
    go_upto_region 1 with fail
    have hbp := below_new1 w (.cells #[.int .i64 x, .int .i64 y] 23)
    have zp : (w.alloc (.cells #[.int .i64 x, .int .i64 y] 23)).heap.size = w.heap.size + 1 := by simp
    have HB := Lib.hid hbp
    have kp := Lib.hid (Lok.new w 23 #[.int .i64 x, .int .i64 y])
    clear hbp
    generalize w.alloc (.cells #[.int .i64 x, .int .i64 y] 23) = Vp at *
    have hbt := below_new1 Vp (.cells #[.int .i64 a1, .int .i64 a2, .int .i64 b1, .int .i64 b2, .int .i64 c1, .int .i64 c2] 24)
    replace kp := Lib.hid (kp.out.keep hbt)
    have zt : (Vp.alloc (.cells #[.int .i64 a1, .int .i64 a2, .int .i64 b1, .int .i64 b2, .int .i64 c1, .int .i64 c2] 24)).heap.size = Vp.heap.size + 1 := by simp
    replace HB := Lib.hid (HB.out.trans (hbt.mono HB.out.size))
    have kt := Lib.hid (Lok.new Vp 24 #[.int .i64 a1, .int .i64 a2, .int .i64 b1, .int .i64 b2, .int .i64 c1, .int .i64 c2])
    clear hbt
    generalize Vp.alloc (.cells #[.int .i64 a1, .int .i64 a2, .int .i64 b1, .int .i64 b2, .int .i64 c1, .int .i64 c2] 24) = Vt at *
    rw [zp] at kt
    clear zp zt
    have p0 := kp.out.cell (i := 0) rfl
    have p1 := kp.out.cell (i := 1) rfl
    go_wp2
    go_ret2
    exact ⟨rfl, HB.out⟩
end Go.Proofs.Ythdcldbocakbpaa
