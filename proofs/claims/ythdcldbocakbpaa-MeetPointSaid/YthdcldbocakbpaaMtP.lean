/-
  MeetPoint, walked. (gen/MtP.py)
-/
import Derived.Test.YthdcldbocakbpaaMtG
import Derived.Test.YthdcldbocakbpaaMtM
namespace Go.Proofs.Ythdcldbocakbpaa
open Go.RowKit

theorem rT_area {a1 a2 b1 b2 c1 c2 : Int} (h : rT a1 a2 b1 b2 c1 c2 = true) : ar a1 a2 b1 b2 c1 c2 ≠ 0 := (rT_iff.1 h).2.2.2
theorem mu_bd (a1 a2 b1 b2 c1 c2 d1 d2 e1 e2 f1 f2 : Int) : -1 ≤ mu a1 a2 b1 b2 c1 c2 d1 d2 e1 e2 f1 f2 ∧ mu a1 a2 b1 b2 c1 c2 d1 d2 e1 e2 f1 f2 ≤ 1 := by
  have i : -1 ≤ r3 a1 a2 b1 b2 c1 c2 d1 d2 e1 e2 f1 f2 ∧ r3 a1 a2 b1 b2 c1 c2 d1 d2 e1 e2 f1 f2 ≤ 1 := rc_bd _ _ _ _ _ _ _ _
  have j : -1 ≤ r3 d1 d2 e1 e2 f1 f2 a1 a2 b1 b2 c1 c2 ∧ r3 d1 d2 e1 e2 f1 f2 a1 a2 b1 b2 c1 c2 ≤ 1 := rc_bd _ _ _ _ _ _ _ _
  unfold mu; omega
theorem r1_bd (a1 a2 b1 b2 c1 c2 x y : Int) : -1 ≤ r1 a1 a2 b1 b2 c1 c2 x y ∧ r1 a1 a2 b1 b2 c1 c2 x y ≤ 1 := rc_bd _ _ _ _ _ _ _ _
set_option maxRecDepth 100000 in
set_option maxHeartbeats 8000000 in
theorem law_point (x y a1 a2 b1 b2 c1 c2 d1 d2 e1 e2 f1 f2 : Int) (w : World) :
    Calls Try.prog 4 #[.agg #[.int .i64 x, .int .i64 y], .agg #[.int .i64 a1, .int .i64 a2, .int .i64 b1, .int .i64 b2, .int .i64 c1, .int .i64 c2], .agg #[.int .i64 d1, .int .i64 d2, .int .i64 e1, .int .i64 e2, .int .i64 f1, .int .i64 f2]] w fun e' w' => e' = .returned (.bool true) ∧ Below w.heap.size w w' := by
  have HB := Lib.hid (Below.refl w.heap.size w)
  have ME := Lib.hid (fun W => met_any W)
  have I1 := Lib.hid (fun W => in_any x y a1 a2 b1 b2 c1 c2 W)
  have I2 := Lib.hid (fun W => in_any x y d1 d2 e1 e2 f1 f2 W)
  have O1 := Lib.hid (fun W => overlap_any a1 a2 b1 b2 c1 c2 d1 d2 e1 e2 f1 f2 _ rfl W)
  have T1 := Lib.hid (fun W => touch_any a1 a2 b1 b2 c1 c2 d1 d2 e1 e2 f1 f2 _ rfl W)
  have R1 := Lib.hid (fun W => right_any a1 a2 b1 b2 c1 c2 W)
  have R2 := Lib.hid (fun W => right_any d1 d2 e1 e2 f1 f2 W)
  cases ha : rT a1 a2 b1 b2 c1 c2 with
  | false =>
    rw [ha, Bool.false_and] at O1 T1
    rw [show (mV false (mu a1 a2 b1 b2 c1 c2 d1 d2 e1 e2 f1 f2) == 1) = false from rfl, show mE false = 1 from rfl] at O1
    rw [show (mV false (mu a1 a2 b1 b2 c1 c2 d1 d2 e1 e2 f1 f2) != -1) = false from rfl, show mE false = 1 from rfl] at T1
    rw [ha] at R1
    clear ha R2
    generalize iV _ _ (r1 a1 a2 b1 b2 c1 c2 x y) = v1 at *
    generalize iV _ _ (r1 d1 d2 e1 e2 f1 f2 x y) = v2 at *
    generalize iE (s2 x y) _ = w1' at I1
    generalize iE (s2 x y) _ = w2' at I2
    go_enter Try.func4, Try.ntmps4
    go_upto_region 1 with fail
    have hbp := below_new1 w (.cells #[.int .i64 x, .int .i64 y] 23)
    have zp : (w.alloc (.cells #[.int .i64 x, .int .i64 y] 23)).heap.size = w.heap.size + 1 := by simp
    have HB := Lib.hid hbp
    have kp := Lib.hid (Lok.new w 23 #[.int .i64 x, .int .i64 y])
    clear hbp
    generalize w.alloc (.cells #[.int .i64 x, .int .i64 y] 23) = Vp at *
    have hba := below_new1 Vp (.cells #[.int .i64 a1, .int .i64 a2, .int .i64 b1, .int .i64 b2, .int .i64 c1, .int .i64 c2] 24)
    replace kp := Lib.hid (kp.out.keep hba)
    have za : (Vp.alloc (.cells #[.int .i64 a1, .int .i64 a2, .int .i64 b1, .int .i64 b2, .int .i64 c1, .int .i64 c2] 24)).heap.size = Vp.heap.size + 1 := by simp
    replace HB := Lib.hid (HB.out.trans (hba.mono HB.out.size))
    have ka := Lib.hid (Lok.new Vp 24 #[.int .i64 a1, .int .i64 a2, .int .i64 b1, .int .i64 b2, .int .i64 c1, .int .i64 c2])
    clear hba
    generalize Vp.alloc (.cells #[.int .i64 a1, .int .i64 a2, .int .i64 b1, .int .i64 b2, .int .i64 c1, .int .i64 c2] 24) = Va at *
    rw [zp] at ka za
    have hbb := below_new1 Va (.cells #[.int .i64 d1, .int .i64 d2, .int .i64 e1, .int .i64 e2, .int .i64 f1, .int .i64 f2] 24)
    replace kp := Lib.hid (kp.out.keep hbb)
    replace ka := Lib.hid (ka.out.keep hbb)
    have zb : (Va.alloc (.cells #[.int .i64 d1, .int .i64 d2, .int .i64 e1, .int .i64 e2, .int .i64 f1, .int .i64 f2] 24)).heap.size = Va.heap.size + 1 := by simp
    replace HB := Lib.hid (HB.out.trans (hbb.mono HB.out.size))
    have kb := Lib.hid (Lok.new Va 24 #[.int .i64 d1, .int .i64 d2, .int .i64 e1, .int .i64 e2, .int .i64 f1, .int .i64 f2])
    clear hbb
    generalize Va.alloc (.cells #[.int .i64 d1, .int .i64 d2, .int .i64 e1, .int .i64 e2, .int .i64 f1, .int .i64 f2] 24) = Vb at *
    rw [za] at kb
    clear zp za zb
    have p0 := kp.out.cell (i := 0) rfl
    have p1 := kp.out.cell (i := 1) rfl
    have a0 := ka.out.cell (i := 0) rfl
    have a1 := ka.out.cell (i := 1) rfl
    have a2 := ka.out.cell (i := 2) rfl
    have a3 := ka.out.cell (i := 3) rfl
    have a4 := ka.out.cell (i := 4) rfl
    have a5 := ka.out.cell (i := 5) rfl
    go_wp2_with fail
    clear p0 p1 a0 a1 a2 a3 a4 a5
    (((with_reducible refine (I1.out _).mono ?_); rintro e w1 ⟨rfl, hb1⟩); replace HB := Lib.hid (HB.out.trans (hb1.mono HB.out.size)); replace kp := Lib.hid (kp.out.keep hb1); replace ka := Lib.hid (ka.out.keep hb1); replace kb := Lib.hid (kb.out.keep hb1); clear hb1)
    clear I1
    have p0 := kp.out.cell (i := 0) rfl
    have p1 := kp.out.cell (i := 1) rfl
    have b0 := kb.out.cell (i := 0) rfl
    have b1 := kb.out.cell (i := 1) rfl
    have b2 := kb.out.cell (i := 2) rfl
    have b3 := kb.out.cell (i := 3) rfl
    have b4 := kb.out.cell (i := 4) rfl
    have b5 := kb.out.cell (i := 5) rfl
    go_wp2_with fail
    clear p0 p1 b0 b1 b2 b3 b4 b5
    (((with_reducible refine (I2.out _).mono ?_); rintro e w2 ⟨rfl, hb2⟩); replace HB := Lib.hid (HB.out.trans (hb2.mono HB.out.size)); replace kp := Lib.hid (kp.out.keep hb2); replace ka := Lib.hid (ka.out.keep hb2); replace kb := Lib.hid (kb.out.keep hb2); clear hb2)
    clear I2
    have a0 := ka.out.cell (i := 0) rfl
    have a1 := ka.out.cell (i := 1) rfl
    have a2 := ka.out.cell (i := 2) rfl
    have a3 := ka.out.cell (i := 3) rfl
    have a4 := ka.out.cell (i := 4) rfl
    have a5 := ka.out.cell (i := 5) rfl
    have b0 := kb.out.cell (i := 0) rfl
    have b1 := kb.out.cell (i := 1) rfl
    have b2 := kb.out.cell (i := 2) rfl
    have b3 := kb.out.cell (i := 3) rfl
    have b4 := kb.out.cell (i := 4) rfl
    have b5 := kb.out.cell (i := 5) rfl
    go_wp2_with fail
    clear a0 a1 a2 a3 a4 a5 b0 b1 b2 b3 b4 b5
    (((with_reducible refine (O1.out _).mono ?_); rintro e w3 ⟨rfl, hb3⟩); replace HB := Lib.hid (HB.out.trans (hb3.mono HB.out.size)); replace kp := Lib.hid (kp.out.keep hb3); replace ka := Lib.hid (ka.out.keep hb3); replace kb := Lib.hid (kb.out.keep hb3); clear hb3)
    clear O1
    have a0 := ka.out.cell (i := 0) rfl
    have a1 := ka.out.cell (i := 1) rfl
    have a2 := ka.out.cell (i := 2) rfl
    have a3 := ka.out.cell (i := 3) rfl
    have a4 := ka.out.cell (i := 4) rfl
    have a5 := ka.out.cell (i := 5) rfl
    have b0 := kb.out.cell (i := 0) rfl
    have b1 := kb.out.cell (i := 1) rfl
    have b2 := kb.out.cell (i := 2) rfl
    have b3 := kb.out.cell (i := 3) rfl
    have b4 := kb.out.cell (i := 4) rfl
    have b5 := kb.out.cell (i := 5) rfl
    go_wp2_with fail
    clear a0 a1 a2 a3 a4 a5 b0 b1 b2 b3 b4 b5
    (((with_reducible refine (T1.out _).mono ?_); rintro e w4 ⟨rfl, hb4⟩); replace HB := Lib.hid (HB.out.trans (hb4.mono HB.out.size)); replace kp := Lib.hid (kp.out.keep hb4); replace ka := Lib.hid (ka.out.keep hb4); replace kb := Lib.hid (kb.out.keep hb4); clear hb4)
    clear T1
    go_wp2_with fail
    (((with_reducible refine (ME.out _).mono ?_); rintro e w5 ⟨rfl, hb5⟩); replace HB := Lib.hid (HB.out.trans (hb5.mono HB.out.size)); replace kp := Lib.hid (kp.out.keep hb5); replace ka := Lib.hid (ka.out.keep hb5); replace kb := Lib.hid (kb.out.keep hb5); clear hb5)
    have a0 := ka.out.cell (i := 0) rfl
    have a1 := ka.out.cell (i := 1) rfl
    have a2 := ka.out.cell (i := 2) rfl
    have a3 := ka.out.cell (i := 3) rfl
    have a4 := ka.out.cell (i := 4) rfl
    have a5 := ka.out.cell (i := 5) rfl
    go_wp2_with fail
    clear a0 a1 a2 a3 a4 a5
    (((with_reducible refine (R1.out _).mono ?_); rintro e w6 ⟨rfl, hb6⟩); replace HB := Lib.hid (HB.out.trans (hb6.mono HB.out.size)); replace kp := Lib.hid (kp.out.keep hb6); replace ka := Lib.hid (ka.out.keep hb6); replace kb := Lib.hid (kb.out.keep hb6); clear hb6)
    go_wp2
    go_ret
    exact ⟨rfl, HB.out⟩
  | true =>
    cases hd : rT d1 d2 e1 e2 f1 f2 with
    | false =>
      rw [ha, hd, Bool.true_and] at O1 T1
      rw [show (mV false (mu a1 a2 b1 b2 c1 c2 d1 d2 e1 e2 f1 f2) == 1) = false from rfl, show mE false = 1 from rfl] at O1
      rw [show (mV false (mu a1 a2 b1 b2 c1 c2 d1 d2 e1 e2 f1 f2) != -1) = false from rfl, show mE false = 1 from rfl] at T1
      rw [ha] at R1
      rw [hd] at R2
      clear ha hd
      generalize iV _ _ (r1 a1 a2 b1 b2 c1 c2 x y) = v1 at *
      generalize iV _ _ (r1 d1 d2 e1 e2 f1 f2 x y) = v2 at *
      generalize iE (s2 x y) _ = w1' at I1
      generalize iE (s2 x y) _ = w2' at I2
      go_enter Try.func4, Try.ntmps4
      go_upto_region 1 with fail
      have hbp := below_new1 w (.cells #[.int .i64 x, .int .i64 y] 23)
      have zp : (w.alloc (.cells #[.int .i64 x, .int .i64 y] 23)).heap.size = w.heap.size + 1 := by simp
      have HB := Lib.hid hbp
      have kp := Lib.hid (Lok.new w 23 #[.int .i64 x, .int .i64 y])
      clear hbp
      generalize w.alloc (.cells #[.int .i64 x, .int .i64 y] 23) = Vp at *
      have hba := below_new1 Vp (.cells #[.int .i64 a1, .int .i64 a2, .int .i64 b1, .int .i64 b2, .int .i64 c1, .int .i64 c2] 24)
      replace kp := Lib.hid (kp.out.keep hba)
      have za : (Vp.alloc (.cells #[.int .i64 a1, .int .i64 a2, .int .i64 b1, .int .i64 b2, .int .i64 c1, .int .i64 c2] 24)).heap.size = Vp.heap.size + 1 := by simp
      replace HB := Lib.hid (HB.out.trans (hba.mono HB.out.size))
      have ka := Lib.hid (Lok.new Vp 24 #[.int .i64 a1, .int .i64 a2, .int .i64 b1, .int .i64 b2, .int .i64 c1, .int .i64 c2])
      clear hba
      generalize Vp.alloc (.cells #[.int .i64 a1, .int .i64 a2, .int .i64 b1, .int .i64 b2, .int .i64 c1, .int .i64 c2] 24) = Va at *
      rw [zp] at ka za
      have hbb := below_new1 Va (.cells #[.int .i64 d1, .int .i64 d2, .int .i64 e1, .int .i64 e2, .int .i64 f1, .int .i64 f2] 24)
      replace kp := Lib.hid (kp.out.keep hbb)
      replace ka := Lib.hid (ka.out.keep hbb)
      have zb : (Va.alloc (.cells #[.int .i64 d1, .int .i64 d2, .int .i64 e1, .int .i64 e2, .int .i64 f1, .int .i64 f2] 24)).heap.size = Va.heap.size + 1 := by simp
      replace HB := Lib.hid (HB.out.trans (hbb.mono HB.out.size))
      have kb := Lib.hid (Lok.new Va 24 #[.int .i64 d1, .int .i64 d2, .int .i64 e1, .int .i64 e2, .int .i64 f1, .int .i64 f2])
      clear hbb
      generalize Va.alloc (.cells #[.int .i64 d1, .int .i64 d2, .int .i64 e1, .int .i64 e2, .int .i64 f1, .int .i64 f2] 24) = Vb at *
      rw [za] at kb
      clear zp za zb
      have p0 := kp.out.cell (i := 0) rfl
      have p1 := kp.out.cell (i := 1) rfl
      have a0 := ka.out.cell (i := 0) rfl
      have a1 := ka.out.cell (i := 1) rfl
      have a2 := ka.out.cell (i := 2) rfl
      have a3 := ka.out.cell (i := 3) rfl
      have a4 := ka.out.cell (i := 4) rfl
      have a5 := ka.out.cell (i := 5) rfl
      go_wp2_with fail
      clear p0 p1 a0 a1 a2 a3 a4 a5
      (((with_reducible refine (I1.out _).mono ?_); rintro e w1 ⟨rfl, hb1⟩); replace HB := Lib.hid (HB.out.trans (hb1.mono HB.out.size)); replace kp := Lib.hid (kp.out.keep hb1); replace ka := Lib.hid (ka.out.keep hb1); replace kb := Lib.hid (kb.out.keep hb1); clear hb1)
      clear I1
      have p0 := kp.out.cell (i := 0) rfl
      have p1 := kp.out.cell (i := 1) rfl
      have b0 := kb.out.cell (i := 0) rfl
      have b1 := kb.out.cell (i := 1) rfl
      have b2 := kb.out.cell (i := 2) rfl
      have b3 := kb.out.cell (i := 3) rfl
      have b4 := kb.out.cell (i := 4) rfl
      have b5 := kb.out.cell (i := 5) rfl
      go_wp2_with fail
      clear p0 p1 b0 b1 b2 b3 b4 b5
      (((with_reducible refine (I2.out _).mono ?_); rintro e w2 ⟨rfl, hb2⟩); replace HB := Lib.hid (HB.out.trans (hb2.mono HB.out.size)); replace kp := Lib.hid (kp.out.keep hb2); replace ka := Lib.hid (ka.out.keep hb2); replace kb := Lib.hid (kb.out.keep hb2); clear hb2)
      clear I2
      have a0 := ka.out.cell (i := 0) rfl
      have a1 := ka.out.cell (i := 1) rfl
      have a2 := ka.out.cell (i := 2) rfl
      have a3 := ka.out.cell (i := 3) rfl
      have a4 := ka.out.cell (i := 4) rfl
      have a5 := ka.out.cell (i := 5) rfl
      have b0 := kb.out.cell (i := 0) rfl
      have b1 := kb.out.cell (i := 1) rfl
      have b2 := kb.out.cell (i := 2) rfl
      have b3 := kb.out.cell (i := 3) rfl
      have b4 := kb.out.cell (i := 4) rfl
      have b5 := kb.out.cell (i := 5) rfl
      go_wp2_with fail
      clear a0 a1 a2 a3 a4 a5 b0 b1 b2 b3 b4 b5
      (((with_reducible refine (O1.out _).mono ?_); rintro e w3 ⟨rfl, hb3⟩); replace HB := Lib.hid (HB.out.trans (hb3.mono HB.out.size)); replace kp := Lib.hid (kp.out.keep hb3); replace ka := Lib.hid (ka.out.keep hb3); replace kb := Lib.hid (kb.out.keep hb3); clear hb3)
      clear O1
      have a0 := ka.out.cell (i := 0) rfl
      have a1 := ka.out.cell (i := 1) rfl
      have a2 := ka.out.cell (i := 2) rfl
      have a3 := ka.out.cell (i := 3) rfl
      have a4 := ka.out.cell (i := 4) rfl
      have a5 := ka.out.cell (i := 5) rfl
      have b0 := kb.out.cell (i := 0) rfl
      have b1 := kb.out.cell (i := 1) rfl
      have b2 := kb.out.cell (i := 2) rfl
      have b3 := kb.out.cell (i := 3) rfl
      have b4 := kb.out.cell (i := 4) rfl
      have b5 := kb.out.cell (i := 5) rfl
      go_wp2_with fail
      clear a0 a1 a2 a3 a4 a5 b0 b1 b2 b3 b4 b5
      (((with_reducible refine (T1.out _).mono ?_); rintro e w4 ⟨rfl, hb4⟩); replace HB := Lib.hid (HB.out.trans (hb4.mono HB.out.size)); replace kp := Lib.hid (kp.out.keep hb4); replace ka := Lib.hid (ka.out.keep hb4); replace kb := Lib.hid (kb.out.keep hb4); clear hb4)
      clear T1
      go_wp2_with fail
      (((with_reducible refine (ME.out _).mono ?_); rintro e w5 ⟨rfl, hb5⟩); replace HB := Lib.hid (HB.out.trans (hb5.mono HB.out.size)); replace kp := Lib.hid (kp.out.keep hb5); replace ka := Lib.hid (ka.out.keep hb5); replace kb := Lib.hid (kb.out.keep hb5); clear hb5)
      have a0 := ka.out.cell (i := 0) rfl
      have a1 := ka.out.cell (i := 1) rfl
      have a2 := ka.out.cell (i := 2) rfl
      have a3 := ka.out.cell (i := 3) rfl
      have a4 := ka.out.cell (i := 4) rfl
      have a5 := ka.out.cell (i := 5) rfl
      go_wp2_with fail
      clear a0 a1 a2 a3 a4 a5
      (((with_reducible refine (R1.out _).mono ?_); rintro e w6 ⟨rfl, hb6⟩); replace HB := Lib.hid (HB.out.trans (hb6.mono HB.out.size)); replace kp := Lib.hid (kp.out.keep hb6); replace ka := Lib.hid (ka.out.keep hb6); replace kb := Lib.hid (kb.out.keep hb6); clear hb6)
      have b0 := kb.out.cell (i := 0) rfl
      have b1 := kb.out.cell (i := 1) rfl
      have b2 := kb.out.cell (i := 2) rfl
      have b3 := kb.out.cell (i := 3) rfl
      have b4 := kb.out.cell (i := 4) rfl
      have b5 := kb.out.cell (i := 5) rfl
      go_wp2_with fail
      clear b0 b1 b2 b3 b4 b5
      (((with_reducible refine (R2.out _).mono ?_); rintro e w7 ⟨rfl, hb7⟩); replace HB := Lib.hid (HB.out.trans (hb7.mono HB.out.size)); replace kp := Lib.hid (kp.out.keep hb7); replace ka := Lib.hid (ka.out.keep hb7); replace kb := Lib.hid (kb.out.keep hb7); clear hb7)
      go_wp2
      go_ret
      exact ⟨rfl, HB.out⟩
    | true =>
      rw [ha, hd, Bool.true_and] at O1 T1
      rw [show mV true (mu a1 a2 b1 b2 c1 c2 d1 d2 e1 e2 f1 f2) = mu a1 a2 b1 b2 c1 c2 d1 d2 e1 e2 f1 f2 from rfl, show mE true = 0 from rfl] at O1 T1
      rw [ha] at I1
      rw [hd] at I2
      have hm := mu_bd a1 a2 b1 b2 c1 c2 d1 d2 e1 e2 f1 f2
      cases hp : s2 x y with
      | false =>
        rw [hp] at I1 I2
        rw [show iV false true (r1 a1 a2 b1 b2 c1 c2 x y) = 0 from rfl, show iE false true = 5 from rfl] at I1
        rw [show iV false true (r1 d1 d2 e1 e2 f1 f2 x y) = 0 from rfl, show iE false true = 5 from rfl] at I2
        generalize mu a1 a2 b1 b2 c1 c2 d1 d2 e1 e2 f1 f2 = m at *
        clear ha hd hp R1 R2
        rcases (show m = -1 ∨ m = 0 ∨ m = 1 by omega) with rfl | rfl | rfl
        · go_enter Try.func4, Try.ntmps4
          go_upto_region 1 with fail
          have hbp := below_new1 w (.cells #[.int .i64 x, .int .i64 y] 23)
          have zp : (w.alloc (.cells #[.int .i64 x, .int .i64 y] 23)).heap.size = w.heap.size + 1 := by simp
          have HB := Lib.hid hbp
          have kp := Lib.hid (Lok.new w 23 #[.int .i64 x, .int .i64 y])
          clear hbp
          generalize w.alloc (.cells #[.int .i64 x, .int .i64 y] 23) = Vp at *
          have hba := below_new1 Vp (.cells #[.int .i64 a1, .int .i64 a2, .int .i64 b1, .int .i64 b2, .int .i64 c1, .int .i64 c2] 24)
          replace kp := Lib.hid (kp.out.keep hba)
          have za : (Vp.alloc (.cells #[.int .i64 a1, .int .i64 a2, .int .i64 b1, .int .i64 b2, .int .i64 c1, .int .i64 c2] 24)).heap.size = Vp.heap.size + 1 := by simp
          replace HB := Lib.hid (HB.out.trans (hba.mono HB.out.size))
          have ka := Lib.hid (Lok.new Vp 24 #[.int .i64 a1, .int .i64 a2, .int .i64 b1, .int .i64 b2, .int .i64 c1, .int .i64 c2])
          clear hba
          generalize Vp.alloc (.cells #[.int .i64 a1, .int .i64 a2, .int .i64 b1, .int .i64 b2, .int .i64 c1, .int .i64 c2] 24) = Va at *
          rw [zp] at ka za
          have hbb := below_new1 Va (.cells #[.int .i64 d1, .int .i64 d2, .int .i64 e1, .int .i64 e2, .int .i64 f1, .int .i64 f2] 24)
          replace kp := Lib.hid (kp.out.keep hbb)
          replace ka := Lib.hid (ka.out.keep hbb)
          have zb : (Va.alloc (.cells #[.int .i64 d1, .int .i64 d2, .int .i64 e1, .int .i64 e2, .int .i64 f1, .int .i64 f2] 24)).heap.size = Va.heap.size + 1 := by simp
          replace HB := Lib.hid (HB.out.trans (hbb.mono HB.out.size))
          have kb := Lib.hid (Lok.new Va 24 #[.int .i64 d1, .int .i64 d2, .int .i64 e1, .int .i64 e2, .int .i64 f1, .int .i64 f2])
          clear hbb
          generalize Va.alloc (.cells #[.int .i64 d1, .int .i64 d2, .int .i64 e1, .int .i64 e2, .int .i64 f1, .int .i64 f2] 24) = Vb at *
          rw [za] at kb
          clear zp za zb
          have p0 := kp.out.cell (i := 0) rfl
          have p1 := kp.out.cell (i := 1) rfl
          have a0 := ka.out.cell (i := 0) rfl
          have a1 := ka.out.cell (i := 1) rfl
          have a2 := ka.out.cell (i := 2) rfl
          have a3 := ka.out.cell (i := 3) rfl
          have a4 := ka.out.cell (i := 4) rfl
          have a5 := ka.out.cell (i := 5) rfl
          go_wp2_with fail
          clear p0 p1 a0 a1 a2 a3 a4 a5
          (((with_reducible refine (I1.out _).mono ?_); rintro e w1 ⟨rfl, hb1⟩); replace HB := Lib.hid (HB.out.trans (hb1.mono HB.out.size)); replace kp := Lib.hid (kp.out.keep hb1); replace ka := Lib.hid (ka.out.keep hb1); replace kb := Lib.hid (kb.out.keep hb1); clear hb1)
          clear I1
          have p0 := kp.out.cell (i := 0) rfl
          have p1 := kp.out.cell (i := 1) rfl
          have b0 := kb.out.cell (i := 0) rfl
          have b1 := kb.out.cell (i := 1) rfl
          have b2 := kb.out.cell (i := 2) rfl
          have b3 := kb.out.cell (i := 3) rfl
          have b4 := kb.out.cell (i := 4) rfl
          have b5 := kb.out.cell (i := 5) rfl
          go_wp2_with fail
          clear p0 p1 b0 b1 b2 b3 b4 b5
          (((with_reducible refine (I2.out _).mono ?_); rintro e w2 ⟨rfl, hb2⟩); replace HB := Lib.hid (HB.out.trans (hb2.mono HB.out.size)); replace kp := Lib.hid (kp.out.keep hb2); replace ka := Lib.hid (ka.out.keep hb2); replace kb := Lib.hid (kb.out.keep hb2); clear hb2)
          clear I2
          have a0 := ka.out.cell (i := 0) rfl
          have a1 := ka.out.cell (i := 1) rfl
          have a2 := ka.out.cell (i := 2) rfl
          have a3 := ka.out.cell (i := 3) rfl
          have a4 := ka.out.cell (i := 4) rfl
          have a5 := ka.out.cell (i := 5) rfl
          have b0 := kb.out.cell (i := 0) rfl
          have b1 := kb.out.cell (i := 1) rfl
          have b2 := kb.out.cell (i := 2) rfl
          have b3 := kb.out.cell (i := 3) rfl
          have b4 := kb.out.cell (i := 4) rfl
          have b5 := kb.out.cell (i := 5) rfl
          go_wp2_with fail
          clear a0 a1 a2 a3 a4 a5 b0 b1 b2 b3 b4 b5
          (((with_reducible refine (O1.out _).mono ?_); rintro e w3 ⟨rfl, hb3⟩); replace HB := Lib.hid (HB.out.trans (hb3.mono HB.out.size)); replace kp := Lib.hid (kp.out.keep hb3); replace ka := Lib.hid (ka.out.keep hb3); replace kb := Lib.hid (kb.out.keep hb3); clear hb3)
          clear O1
          have a0 := ka.out.cell (i := 0) rfl
          have a1 := ka.out.cell (i := 1) rfl
          have a2 := ka.out.cell (i := 2) rfl
          have a3 := ka.out.cell (i := 3) rfl
          have a4 := ka.out.cell (i := 4) rfl
          have a5 := ka.out.cell (i := 5) rfl
          have b0 := kb.out.cell (i := 0) rfl
          have b1 := kb.out.cell (i := 1) rfl
          have b2 := kb.out.cell (i := 2) rfl
          have b3 := kb.out.cell (i := 3) rfl
          have b4 := kb.out.cell (i := 4) rfl
          have b5 := kb.out.cell (i := 5) rfl
          go_wp2_with fail
          clear a0 a1 a2 a3 a4 a5 b0 b1 b2 b3 b4 b5
          (((with_reducible refine (T1.out _).mono ?_); rintro e w4 ⟨rfl, hb4⟩); replace HB := Lib.hid (HB.out.trans (hb4.mono HB.out.size)); replace kp := Lib.hid (kp.out.keep hb4); replace ka := Lib.hid (ka.out.keep hb4); replace kb := Lib.hid (kb.out.keep hb4); clear hb4)
          clear T1
          go_wp2_with fail
          (((with_reducible refine (ME.out _).mono ?_); rintro e w5 ⟨rfl, hb5⟩); replace HB := Lib.hid (HB.out.trans (hb5.mono HB.out.size)); replace kp := Lib.hid (kp.out.keep hb5); replace ka := Lib.hid (ka.out.keep hb5); replace kb := Lib.hid (kb.out.keep hb5); clear hb5)
          go_wp2
          go_ret
          exact ⟨rfl, HB.out⟩
        · go_enter Try.func4, Try.ntmps4
          go_upto_region 1 with fail
          have hbp := below_new1 w (.cells #[.int .i64 x, .int .i64 y] 23)
          have zp : (w.alloc (.cells #[.int .i64 x, .int .i64 y] 23)).heap.size = w.heap.size + 1 := by simp
          have HB := Lib.hid hbp
          have kp := Lib.hid (Lok.new w 23 #[.int .i64 x, .int .i64 y])
          clear hbp
          generalize w.alloc (.cells #[.int .i64 x, .int .i64 y] 23) = Vp at *
          have hba := below_new1 Vp (.cells #[.int .i64 a1, .int .i64 a2, .int .i64 b1, .int .i64 b2, .int .i64 c1, .int .i64 c2] 24)
          replace kp := Lib.hid (kp.out.keep hba)
          have za : (Vp.alloc (.cells #[.int .i64 a1, .int .i64 a2, .int .i64 b1, .int .i64 b2, .int .i64 c1, .int .i64 c2] 24)).heap.size = Vp.heap.size + 1 := by simp
          replace HB := Lib.hid (HB.out.trans (hba.mono HB.out.size))
          have ka := Lib.hid (Lok.new Vp 24 #[.int .i64 a1, .int .i64 a2, .int .i64 b1, .int .i64 b2, .int .i64 c1, .int .i64 c2])
          clear hba
          generalize Vp.alloc (.cells #[.int .i64 a1, .int .i64 a2, .int .i64 b1, .int .i64 b2, .int .i64 c1, .int .i64 c2] 24) = Va at *
          rw [zp] at ka za
          have hbb := below_new1 Va (.cells #[.int .i64 d1, .int .i64 d2, .int .i64 e1, .int .i64 e2, .int .i64 f1, .int .i64 f2] 24)
          replace kp := Lib.hid (kp.out.keep hbb)
          replace ka := Lib.hid (ka.out.keep hbb)
          have zb : (Va.alloc (.cells #[.int .i64 d1, .int .i64 d2, .int .i64 e1, .int .i64 e2, .int .i64 f1, .int .i64 f2] 24)).heap.size = Va.heap.size + 1 := by simp
          replace HB := Lib.hid (HB.out.trans (hbb.mono HB.out.size))
          have kb := Lib.hid (Lok.new Va 24 #[.int .i64 d1, .int .i64 d2, .int .i64 e1, .int .i64 e2, .int .i64 f1, .int .i64 f2])
          clear hbb
          generalize Va.alloc (.cells #[.int .i64 d1, .int .i64 d2, .int .i64 e1, .int .i64 e2, .int .i64 f1, .int .i64 f2] 24) = Vb at *
          rw [za] at kb
          clear zp za zb
          have p0 := kp.out.cell (i := 0) rfl
          have p1 := kp.out.cell (i := 1) rfl
          have a0 := ka.out.cell (i := 0) rfl
          have a1 := ka.out.cell (i := 1) rfl
          have a2 := ka.out.cell (i := 2) rfl
          have a3 := ka.out.cell (i := 3) rfl
          have a4 := ka.out.cell (i := 4) rfl
          have a5 := ka.out.cell (i := 5) rfl
          go_wp2_with fail
          clear p0 p1 a0 a1 a2 a3 a4 a5
          (((with_reducible refine (I1.out _).mono ?_); rintro e w1 ⟨rfl, hb1⟩); replace HB := Lib.hid (HB.out.trans (hb1.mono HB.out.size)); replace kp := Lib.hid (kp.out.keep hb1); replace ka := Lib.hid (ka.out.keep hb1); replace kb := Lib.hid (kb.out.keep hb1); clear hb1)
          clear I1
          have p0 := kp.out.cell (i := 0) rfl
          have p1 := kp.out.cell (i := 1) rfl
          have b0 := kb.out.cell (i := 0) rfl
          have b1 := kb.out.cell (i := 1) rfl
          have b2 := kb.out.cell (i := 2) rfl
          have b3 := kb.out.cell (i := 3) rfl
          have b4 := kb.out.cell (i := 4) rfl
          have b5 := kb.out.cell (i := 5) rfl
          go_wp2_with fail
          clear p0 p1 b0 b1 b2 b3 b4 b5
          (((with_reducible refine (I2.out _).mono ?_); rintro e w2 ⟨rfl, hb2⟩); replace HB := Lib.hid (HB.out.trans (hb2.mono HB.out.size)); replace kp := Lib.hid (kp.out.keep hb2); replace ka := Lib.hid (ka.out.keep hb2); replace kb := Lib.hid (kb.out.keep hb2); clear hb2)
          clear I2
          have a0 := ka.out.cell (i := 0) rfl
          have a1 := ka.out.cell (i := 1) rfl
          have a2 := ka.out.cell (i := 2) rfl
          have a3 := ka.out.cell (i := 3) rfl
          have a4 := ka.out.cell (i := 4) rfl
          have a5 := ka.out.cell (i := 5) rfl
          have b0 := kb.out.cell (i := 0) rfl
          have b1 := kb.out.cell (i := 1) rfl
          have b2 := kb.out.cell (i := 2) rfl
          have b3 := kb.out.cell (i := 3) rfl
          have b4 := kb.out.cell (i := 4) rfl
          have b5 := kb.out.cell (i := 5) rfl
          go_wp2_with fail
          clear a0 a1 a2 a3 a4 a5 b0 b1 b2 b3 b4 b5
          (((with_reducible refine (O1.out _).mono ?_); rintro e w3 ⟨rfl, hb3⟩); replace HB := Lib.hid (HB.out.trans (hb3.mono HB.out.size)); replace kp := Lib.hid (kp.out.keep hb3); replace ka := Lib.hid (ka.out.keep hb3); replace kb := Lib.hid (kb.out.keep hb3); clear hb3)
          clear O1
          have a0 := ka.out.cell (i := 0) rfl
          have a1 := ka.out.cell (i := 1) rfl
          have a2 := ka.out.cell (i := 2) rfl
          have a3 := ka.out.cell (i := 3) rfl
          have a4 := ka.out.cell (i := 4) rfl
          have a5 := ka.out.cell (i := 5) rfl
          have b0 := kb.out.cell (i := 0) rfl
          have b1 := kb.out.cell (i := 1) rfl
          have b2 := kb.out.cell (i := 2) rfl
          have b3 := kb.out.cell (i := 3) rfl
          have b4 := kb.out.cell (i := 4) rfl
          have b5 := kb.out.cell (i := 5) rfl
          go_wp2_with fail
          clear a0 a1 a2 a3 a4 a5 b0 b1 b2 b3 b4 b5
          (((with_reducible refine (T1.out _).mono ?_); rintro e w4 ⟨rfl, hb4⟩); replace HB := Lib.hid (HB.out.trans (hb4.mono HB.out.size)); replace kp := Lib.hid (kp.out.keep hb4); replace ka := Lib.hid (ka.out.keep hb4); replace kb := Lib.hid (kb.out.keep hb4); clear hb4)
          clear T1
          go_wp2_with fail
          (((with_reducible refine (ME.out _).mono ?_); rintro e w5 ⟨rfl, hb5⟩); replace HB := Lib.hid (HB.out.trans (hb5.mono HB.out.size)); replace kp := Lib.hid (kp.out.keep hb5); replace ka := Lib.hid (ka.out.keep hb5); replace kb := Lib.hid (kb.out.keep hb5); clear hb5)
          go_wp2
          go_ret
          exact ⟨rfl, HB.out⟩
        · go_enter Try.func4, Try.ntmps4
          go_upto_region 1 with fail
          have hbp := below_new1 w (.cells #[.int .i64 x, .int .i64 y] 23)
          have zp : (w.alloc (.cells #[.int .i64 x, .int .i64 y] 23)).heap.size = w.heap.size + 1 := by simp
          have HB := Lib.hid hbp
          have kp := Lib.hid (Lok.new w 23 #[.int .i64 x, .int .i64 y])
          clear hbp
          generalize w.alloc (.cells #[.int .i64 x, .int .i64 y] 23) = Vp at *
          have hba := below_new1 Vp (.cells #[.int .i64 a1, .int .i64 a2, .int .i64 b1, .int .i64 b2, .int .i64 c1, .int .i64 c2] 24)
          replace kp := Lib.hid (kp.out.keep hba)
          have za : (Vp.alloc (.cells #[.int .i64 a1, .int .i64 a2, .int .i64 b1, .int .i64 b2, .int .i64 c1, .int .i64 c2] 24)).heap.size = Vp.heap.size + 1 := by simp
          replace HB := Lib.hid (HB.out.trans (hba.mono HB.out.size))
          have ka := Lib.hid (Lok.new Vp 24 #[.int .i64 a1, .int .i64 a2, .int .i64 b1, .int .i64 b2, .int .i64 c1, .int .i64 c2])
          clear hba
          generalize Vp.alloc (.cells #[.int .i64 a1, .int .i64 a2, .int .i64 b1, .int .i64 b2, .int .i64 c1, .int .i64 c2] 24) = Va at *
          rw [zp] at ka za
          have hbb := below_new1 Va (.cells #[.int .i64 d1, .int .i64 d2, .int .i64 e1, .int .i64 e2, .int .i64 f1, .int .i64 f2] 24)
          replace kp := Lib.hid (kp.out.keep hbb)
          replace ka := Lib.hid (ka.out.keep hbb)
          have zb : (Va.alloc (.cells #[.int .i64 d1, .int .i64 d2, .int .i64 e1, .int .i64 e2, .int .i64 f1, .int .i64 f2] 24)).heap.size = Va.heap.size + 1 := by simp
          replace HB := Lib.hid (HB.out.trans (hbb.mono HB.out.size))
          have kb := Lib.hid (Lok.new Va 24 #[.int .i64 d1, .int .i64 d2, .int .i64 e1, .int .i64 e2, .int .i64 f1, .int .i64 f2])
          clear hbb
          generalize Va.alloc (.cells #[.int .i64 d1, .int .i64 d2, .int .i64 e1, .int .i64 e2, .int .i64 f1, .int .i64 f2] 24) = Vb at *
          rw [za] at kb
          clear zp za zb
          have p0 := kp.out.cell (i := 0) rfl
          have p1 := kp.out.cell (i := 1) rfl
          have a0 := ka.out.cell (i := 0) rfl
          have a1 := ka.out.cell (i := 1) rfl
          have a2 := ka.out.cell (i := 2) rfl
          have a3 := ka.out.cell (i := 3) rfl
          have a4 := ka.out.cell (i := 4) rfl
          have a5 := ka.out.cell (i := 5) rfl
          go_wp2_with fail
          clear p0 p1 a0 a1 a2 a3 a4 a5
          (((with_reducible refine (I1.out _).mono ?_); rintro e w1 ⟨rfl, hb1⟩); replace HB := Lib.hid (HB.out.trans (hb1.mono HB.out.size)); replace kp := Lib.hid (kp.out.keep hb1); replace ka := Lib.hid (ka.out.keep hb1); replace kb := Lib.hid (kb.out.keep hb1); clear hb1)
          clear I1
          have p0 := kp.out.cell (i := 0) rfl
          have p1 := kp.out.cell (i := 1) rfl
          have b0 := kb.out.cell (i := 0) rfl
          have b1 := kb.out.cell (i := 1) rfl
          have b2 := kb.out.cell (i := 2) rfl
          have b3 := kb.out.cell (i := 3) rfl
          have b4 := kb.out.cell (i := 4) rfl
          have b5 := kb.out.cell (i := 5) rfl
          go_wp2_with fail
          clear p0 p1 b0 b1 b2 b3 b4 b5
          (((with_reducible refine (I2.out _).mono ?_); rintro e w2 ⟨rfl, hb2⟩); replace HB := Lib.hid (HB.out.trans (hb2.mono HB.out.size)); replace kp := Lib.hid (kp.out.keep hb2); replace ka := Lib.hid (ka.out.keep hb2); replace kb := Lib.hid (kb.out.keep hb2); clear hb2)
          clear I2
          have a0 := ka.out.cell (i := 0) rfl
          have a1 := ka.out.cell (i := 1) rfl
          have a2 := ka.out.cell (i := 2) rfl
          have a3 := ka.out.cell (i := 3) rfl
          have a4 := ka.out.cell (i := 4) rfl
          have a5 := ka.out.cell (i := 5) rfl
          have b0 := kb.out.cell (i := 0) rfl
          have b1 := kb.out.cell (i := 1) rfl
          have b2 := kb.out.cell (i := 2) rfl
          have b3 := kb.out.cell (i := 3) rfl
          have b4 := kb.out.cell (i := 4) rfl
          have b5 := kb.out.cell (i := 5) rfl
          go_wp2_with fail
          clear a0 a1 a2 a3 a4 a5 b0 b1 b2 b3 b4 b5
          (((with_reducible refine (O1.out _).mono ?_); rintro e w3 ⟨rfl, hb3⟩); replace HB := Lib.hid (HB.out.trans (hb3.mono HB.out.size)); replace kp := Lib.hid (kp.out.keep hb3); replace ka := Lib.hid (ka.out.keep hb3); replace kb := Lib.hid (kb.out.keep hb3); clear hb3)
          clear O1
          have a0 := ka.out.cell (i := 0) rfl
          have a1 := ka.out.cell (i := 1) rfl
          have a2 := ka.out.cell (i := 2) rfl
          have a3 := ka.out.cell (i := 3) rfl
          have a4 := ka.out.cell (i := 4) rfl
          have a5 := ka.out.cell (i := 5) rfl
          have b0 := kb.out.cell (i := 0) rfl
          have b1 := kb.out.cell (i := 1) rfl
          have b2 := kb.out.cell (i := 2) rfl
          have b3 := kb.out.cell (i := 3) rfl
          have b4 := kb.out.cell (i := 4) rfl
          have b5 := kb.out.cell (i := 5) rfl
          go_wp2_with fail
          clear a0 a1 a2 a3 a4 a5 b0 b1 b2 b3 b4 b5
          (((with_reducible refine (T1.out _).mono ?_); rintro e w4 ⟨rfl, hb4⟩); replace HB := Lib.hid (HB.out.trans (hb4.mono HB.out.size)); replace kp := Lib.hid (kp.out.keep hb4); replace ka := Lib.hid (ka.out.keep hb4); replace kb := Lib.hid (kb.out.keep hb4); clear hb4)
          clear T1
          go_wp2_with fail
          (((with_reducible refine (ME.out _).mono ?_); rintro e w5 ⟨rfl, hb5⟩); replace HB := Lib.hid (HB.out.trans (hb5.mono HB.out.size)); replace kp := Lib.hid (kp.out.keep hb5); replace ka := Lib.hid (ka.out.keep hb5); replace kb := Lib.hid (kb.out.keep hb5); clear hb5)
          go_wp2
          go_ret
          exact ⟨rfl, HB.out⟩
      | true =>
        rw [hp] at I1 I2
        rw [show iV true true (r1 a1 a2 b1 b2 c1 c2 x y) = r1 a1 a2 b1 b2 c1 c2 x y + 1 from rfl, show iE true true = 0 from rfl] at I1
        rw [show iV true true (r1 d1 d2 e1 e2 f1 f2 x y) = r1 d1 d2 e1 e2 f1 f2 x y + 1 from rfl, show iE true true = 0 from rfl] at I2
        have q1 := r1_bd a1 a2 b1 b2 c1 c2 x y
        have q2 := r1_bd d1 d2 e1 e2 f1 f2 x y
        have hpos := mu_pos (p1 := x) (p2 := y) (rT_area ha) (rT_area hd)
        have hnn := mu_nn (p1 := x) (p2 := y) (rT_area ha) (rT_area hd)
        generalize mu a1 a2 b1 b2 c1 c2 d1 d2 e1 e2 f1 f2 = m at *
        generalize r1 a1 a2 b1 b2 c1 c2 x y = n1 at *
        generalize r1 d1 d2 e1 e2 f1 f2 x y = n2 at *
        obtain ⟨n1', g1⟩ : ∃ v, n1 + 1 = v := ⟨_, rfl⟩
        obtain ⟨n2', g2⟩ : ∃ v, n2 + 1 = v := ⟨_, rfl⟩
        rw [g1] at I1
        rw [g2] at I2
        obtain ⟨bx, gx⟩ : ∃ v, (m == 1) = v := ⟨_, rfl⟩
        obtain ⟨bt, gt⟩ : ∃ v, (m != -1) = v := ⟨_, rfl⟩
        rw [gx] at O1
        rw [gt] at T1
        have w1' : (n1' = 0 ∨ n1' = 1 ∨ n1' = 2) := by omega
        have w2' : (n2' = 0 ∨ n2' = 1 ∨ n2' = 2) := by omega
        have wb : (bx = true ∧ bt = true) ∨ (bx = false ∧ bt = true ∧ ¬ (n1' = 2 ∧ n2' = 2)) ∨ (bx = false ∧ bt = false ∧ (n1' = 0 ∨ n2' = 0)) := by
          rcases (show m = -1 ∨ m = 0 ∨ m = 1 by omega) with rfl | rfl | rfl
          · refine .inr (.inr ⟨by rw [← gx]; rfl, by rw [← gt]; rfl, ?_⟩)
            rcases Int.lt_or_le n1 0 with u | u
            · exact .inl (by omega)
            rcases Int.lt_or_le n2 0 with v | v
            · exact .inr (by omega)
            exact absurd (hnn u v) (by decide)
          · exact .inr (.inl ⟨by rw [← gx]; rfl, by rw [← gt]; rfl, fun h => absurd (hpos (by omega) (by omega)) (by decide)⟩)
          · exact .inl ⟨by rw [← gx]; rfl, by rw [← gt]; rfl⟩
        clear hm hp ha hd R1 R2 q1 q2 hpos hnn g1 g2 gx gt
        have HW := Lib.hid (And.intro w1' (And.intro w2' wb))
        clear w1' w2' wb
        go_enter Try.func4, Try.ntmps4
        go_upto_region 1 with fail
        have hbp := below_new1 w (.cells #[.int .i64 x, .int .i64 y] 23)
        have zp : (w.alloc (.cells #[.int .i64 x, .int .i64 y] 23)).heap.size = w.heap.size + 1 := by simp
        have HB := Lib.hid hbp
        have kp := Lib.hid (Lok.new w 23 #[.int .i64 x, .int .i64 y])
        clear hbp
        generalize w.alloc (.cells #[.int .i64 x, .int .i64 y] 23) = Vp at *
        have hba := below_new1 Vp (.cells #[.int .i64 a1, .int .i64 a2, .int .i64 b1, .int .i64 b2, .int .i64 c1, .int .i64 c2] 24)
        replace kp := Lib.hid (kp.out.keep hba)
        have za : (Vp.alloc (.cells #[.int .i64 a1, .int .i64 a2, .int .i64 b1, .int .i64 b2, .int .i64 c1, .int .i64 c2] 24)).heap.size = Vp.heap.size + 1 := by simp
        replace HB := Lib.hid (HB.out.trans (hba.mono HB.out.size))
        have ka := Lib.hid (Lok.new Vp 24 #[.int .i64 a1, .int .i64 a2, .int .i64 b1, .int .i64 b2, .int .i64 c1, .int .i64 c2])
        clear hba
        generalize Vp.alloc (.cells #[.int .i64 a1, .int .i64 a2, .int .i64 b1, .int .i64 b2, .int .i64 c1, .int .i64 c2] 24) = Va at *
        rw [zp] at ka za
        have hbb := below_new1 Va (.cells #[.int .i64 d1, .int .i64 d2, .int .i64 e1, .int .i64 e2, .int .i64 f1, .int .i64 f2] 24)
        replace kp := Lib.hid (kp.out.keep hbb)
        replace ka := Lib.hid (ka.out.keep hbb)
        have zb : (Va.alloc (.cells #[.int .i64 d1, .int .i64 d2, .int .i64 e1, .int .i64 e2, .int .i64 f1, .int .i64 f2] 24)).heap.size = Va.heap.size + 1 := by simp
        replace HB := Lib.hid (HB.out.trans (hbb.mono HB.out.size))
        have kb := Lib.hid (Lok.new Va 24 #[.int .i64 d1, .int .i64 d2, .int .i64 e1, .int .i64 e2, .int .i64 f1, .int .i64 f2])
        clear hbb
        generalize Va.alloc (.cells #[.int .i64 d1, .int .i64 d2, .int .i64 e1, .int .i64 e2, .int .i64 f1, .int .i64 f2] 24) = Vb at *
        rw [za] at kb
        clear zp za zb
        have p0 := kp.out.cell (i := 0) rfl
        have p1 := kp.out.cell (i := 1) rfl
        have a0 := ka.out.cell (i := 0) rfl
        have a1 := ka.out.cell (i := 1) rfl
        have a2 := ka.out.cell (i := 2) rfl
        have a3 := ka.out.cell (i := 3) rfl
        have a4 := ka.out.cell (i := 4) rfl
        have a5 := ka.out.cell (i := 5) rfl
        go_wp2_with fail
        clear p0 p1 a0 a1 a2 a3 a4 a5
        (((with_reducible refine (I1.out _).mono ?_); rintro e w1 ⟨rfl, hb1⟩); replace HB := Lib.hid (HB.out.trans (hb1.mono HB.out.size)); replace kp := Lib.hid (kp.out.keep hb1); replace ka := Lib.hid (ka.out.keep hb1); replace kb := Lib.hid (kb.out.keep hb1); clear hb1)
        clear I1
        have p0 := kp.out.cell (i := 0) rfl
        have p1 := kp.out.cell (i := 1) rfl
        have b0 := kb.out.cell (i := 0) rfl
        have b1 := kb.out.cell (i := 1) rfl
        have b2 := kb.out.cell (i := 2) rfl
        have b3 := kb.out.cell (i := 3) rfl
        have b4 := kb.out.cell (i := 4) rfl
        have b5 := kb.out.cell (i := 5) rfl
        go_wp2_with fail
        clear p0 p1 b0 b1 b2 b3 b4 b5
        (((with_reducible refine (I2.out _).mono ?_); rintro e w2 ⟨rfl, hb2⟩); replace HB := Lib.hid (HB.out.trans (hb2.mono HB.out.size)); replace kp := Lib.hid (kp.out.keep hb2); replace ka := Lib.hid (ka.out.keep hb2); replace kb := Lib.hid (kb.out.keep hb2); clear hb2)
        clear I2
        have a0 := ka.out.cell (i := 0) rfl
        have a1 := ka.out.cell (i := 1) rfl
        have a2 := ka.out.cell (i := 2) rfl
        have a3 := ka.out.cell (i := 3) rfl
        have a4 := ka.out.cell (i := 4) rfl
        have a5 := ka.out.cell (i := 5) rfl
        have b0 := kb.out.cell (i := 0) rfl
        have b1 := kb.out.cell (i := 1) rfl
        have b2 := kb.out.cell (i := 2) rfl
        have b3 := kb.out.cell (i := 3) rfl
        have b4 := kb.out.cell (i := 4) rfl
        have b5 := kb.out.cell (i := 5) rfl
        go_wp2_with fail
        clear a0 a1 a2 a3 a4 a5 b0 b1 b2 b3 b4 b5
        (((with_reducible refine (O1.out _).mono ?_); rintro e w3 ⟨rfl, hb3⟩); replace HB := Lib.hid (HB.out.trans (hb3.mono HB.out.size)); replace kp := Lib.hid (kp.out.keep hb3); replace ka := Lib.hid (ka.out.keep hb3); replace kb := Lib.hid (kb.out.keep hb3); clear hb3)
        clear O1
        have a0 := ka.out.cell (i := 0) rfl
        have a1 := ka.out.cell (i := 1) rfl
        have a2 := ka.out.cell (i := 2) rfl
        have a3 := ka.out.cell (i := 3) rfl
        have a4 := ka.out.cell (i := 4) rfl
        have a5 := ka.out.cell (i := 5) rfl
        have b0 := kb.out.cell (i := 0) rfl
        have b1 := kb.out.cell (i := 1) rfl
        have b2 := kb.out.cell (i := 2) rfl
        have b3 := kb.out.cell (i := 3) rfl
        have b4 := kb.out.cell (i := 4) rfl
        have b5 := kb.out.cell (i := 5) rfl
        go_wp2_with fail
        clear a0 a1 a2 a3 a4 a5 b0 b1 b2 b3 b4 b5
        (((with_reducible refine (T1.out _).mono ?_); rintro e w4 ⟨rfl, hb4⟩); replace HB := Lib.hid (HB.out.trans (hb4.mono HB.out.size)); replace kp := Lib.hid (kp.out.keep hb4); replace ka := Lib.hid (ka.out.keep hb4); replace kb := Lib.hid (kb.out.keep hb4); clear hb4)
        clear T1
        go_wp2_with fail
        (((with_reducible refine (ME.out _).mono ?_); rintro e w5 ⟨rfl, hb5⟩); replace HB := Lib.hid (HB.out.trans (hb5.mono HB.out.size)); replace kp := Lib.hid (kp.out.keep hb5); replace ka := Lib.hid (ka.out.keep hb5); replace kb := Lib.hid (kb.out.keep hb5); clear hb5)
        obtain ⟨w1', w2', wb⟩ := HW.out
        clear HW ME
        rcases wb with ⟨rfl, rfl⟩ | ⟨rfl, rfl, nb⟩ | ⟨rfl, rfl, nb⟩
        · rcases w1' with rfl | rfl | rfl <;> rcases w2' with rfl | rfl | rfl
          all_goals go_wp2
          all_goals go_ret
          all_goals exact ⟨rfl, HB.out⟩
        · rcases w1' with rfl | rfl | rfl <;> rcases w2' with rfl | rfl | rfl <;> first | (exfalso; revert nb; decide) | skip
          all_goals clear nb
          all_goals go_wp2
          all_goals go_ret
          all_goals exact ⟨rfl, HB.out⟩
        · rcases w1' with rfl | rfl | rfl <;> rcases w2' with rfl | rfl | rfl <;> first | (exfalso; revert nb; decide) | skip
          all_goals clear nb
          all_goals go_wp2
          all_goals go_ret
          all_goals exact ⟨rfl, HB.out⟩
end Go.Proofs.Ythdcldbocakbpaa
