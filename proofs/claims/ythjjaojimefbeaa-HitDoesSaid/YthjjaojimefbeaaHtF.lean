/-
  The reference limewashref12: small, side, Side. (gen/HtF.py)
-/
import Derived.Test.YthjjaojimefbeaaSgS
import Derived.Test.YthjjaojimefbeaaHtC
namespace Go.Proofs.Ythjjaojimefbeaa
open Go.RowKit

theorem rall3_n3 (a1 a2 a3 b1 b2 b3 c1 c2 c3 : Int) (u : Bool) (hu : (s3 a1 a2 a3 && s3 b1 b2 b3 && s3 c1 c2 c3) = u) (g : Nat) (T : TypeId) (w : World) (h : Lok w g T #[.int .i64 a1, .int .i64 a2, .int .i64 a3, .int .i64 b1, .int .i64 b2, .int .i64 b3, .int .i64 c1, .int .i64 c2, .int .i64 c3]) :
    Calls Try.prog 30 #[.slice (some ⟨g, 0, none⟩) 3 3] w fun e w' => e = .returned (.bool u) ∧ Below w.heap.size w w' := by
  have q := rall3_any _ 3 3 _ w (rowK_ints (n := 3) (k := 3) [a1, a2, a3, b1, b2, b3, c1, c2, c3] h rfl) (by omega)
  rw [show aS3 (rowOf 3 [a1, a2, a3, b1, b2, b3, c1, c2, c3]) 3 = u from by rw [← hu]; simp [aS3, allB, rowOf]] at q
  exact q
set_option maxRecDepth 100000 in
set_option maxHeartbeats 4000000 in
theorem rsm_any (m u : Bool) (A : Option Addr) (n c : Nat) (F : Nat → Nat → Int) (p1 p2 p3 q1 q2 q3 r1 r2 r3 : Int) (hu : (s3 p1 p2 p3 && s3 q1 q2 q3 && s3 r1 r2 r3) = u) (w : World) (hr : RowK w A n 3 F) (hn : n ≤ 9223372036854775807) (hm : aS3 F n = m) :
    Calls Try.prog 22 #[.slice A n c, .agg #[.int .i64 p1, .int .i64 p2, .int .i64 p3, .int .i64 q1, .int .i64 q2, .int .i64 q3, .int .i64 r1, .int .i64 r2, .int .i64 r3]] w fun e w' => e = .returned (.bool (m && u)) ∧ Below w.heap.size w w' := by
  have HB := Lib.hid (Below.refl w.heap.size w)
  have C1 := Lib.hid (fun W (h : Below w.heap.size w W) => rall3_any A n c F W (hr.keep h) hn)
  simp only [hm] at C1
  have C2 := Lib.hid (fun g T W h => rall3_n3 p1 p2 p3 q1 q2 q3 r1 r2 r3 u hu g T W h)
  clear hr hm hu
  cases m with
  | false =>
    rw [Bool.false_and]
    go_enter Try.func22, Try.ntmps22
    go_upto_region 1 with fail
    have hbt := below_new1 w (.cells #[.int .i64 p1, .int .i64 p2, .int .i64 p3, .int .i64 q1, .int .i64 q2, .int .i64 q3, .int .i64 r1, .int .i64 r2, .int .i64 r3] 24)
    have zt : (w.alloc (.cells #[.int .i64 p1, .int .i64 p2, .int .i64 p3, .int .i64 q1, .int .i64 q2, .int .i64 q3, .int .i64 r1, .int .i64 r2, .int .i64 r3] 24)).heap.size = w.heap.size + 1 := by simp
    have HB := Lib.hid hbt
    have kt := Lib.hid (Lok.new w 24 #[.int .i64 p1, .int .i64 p2, .int .i64 p3, .int .i64 q1, .int .i64 q2, .int .i64 q3, .int .i64 r1, .int .i64 r2, .int .i64 r3])
    clear hbt
    generalize w.alloc (.cells #[.int .i64 p1, .int .i64 p2, .int .i64 p3, .int .i64 q1, .int .i64 q2, .int .i64 q3, .int .i64 r1, .int .i64 r2, .int .i64 r3] 24) = Vt at *
    clear zt
    go_wp2_with fail
    (((with_reducible refine (C1.out _ HB.out).mono ?_); rintro e w1 ⟨rfl, hb1⟩); replace HB := Lib.hid (HB.out.trans (hb1.mono HB.out.size)); replace kt := Lib.hid (kt.out.keep hb1); clear hb1)
    clear C1
    clear C2
    go_wp2
    go_ret
    exact ⟨rfl, HB.out⟩
  | true =>
    rw [Bool.true_and]
    go_enter Try.func22, Try.ntmps22
    go_upto_region 1 with fail
    have hbt := below_new1 w (.cells #[.int .i64 p1, .int .i64 p2, .int .i64 p3, .int .i64 q1, .int .i64 q2, .int .i64 q3, .int .i64 r1, .int .i64 r2, .int .i64 r3] 24)
    have zt : (w.alloc (.cells #[.int .i64 p1, .int .i64 p2, .int .i64 p3, .int .i64 q1, .int .i64 q2, .int .i64 q3, .int .i64 r1, .int .i64 r2, .int .i64 r3] 24)).heap.size = w.heap.size + 1 := by simp
    have HB := Lib.hid hbt
    have kt := Lib.hid (Lok.new w 24 #[.int .i64 p1, .int .i64 p2, .int .i64 p3, .int .i64 q1, .int .i64 q2, .int .i64 q3, .int .i64 r1, .int .i64 r2, .int .i64 r3])
    clear hbt
    generalize w.alloc (.cells #[.int .i64 p1, .int .i64 p2, .int .i64 p3, .int .i64 q1, .int .i64 q2, .int .i64 q3, .int .i64 r1, .int .i64 r2, .int .i64 r3] 24) = Vt at *
    clear zt
    go_wp2_with fail
    (((with_reducible refine (C1.out _ HB.out).mono ?_); rintro e w1 ⟨rfl, hb1⟩); replace HB := Lib.hid (HB.out.trans (hb1.mono HB.out.size)); replace kt := Lib.hid (kt.out.keep hb1); clear hb1)
    clear C1
    have t0 := kt.out.cell (i := 0) rfl
    have t1 := kt.out.cell (i := 1) rfl
    have t2 := kt.out.cell (i := 2) rfl
    have t3 := kt.out.cell (i := 3) rfl
    have t4 := kt.out.cell (i := 4) rfl
    have t5 := kt.out.cell (i := 5) rfl
    have t6 := kt.out.cell (i := 6) rfl
    have t7 := kt.out.cell (i := 7) rfl
    have t8 := kt.out.cell (i := 8) rfl
    go_wp2_with fail
    clear t0 t1 t2 t3 t4 t5 t6 t7 t8
    have hbr := below_new1 w1 (.cells #[.int .i64 p1, .int .i64 p2, .int .i64 p3, .int .i64 q1, .int .i64 q2, .int .i64 q3, .int .i64 r1, .int .i64 r2, .int .i64 r3] 23)
    replace kt := Lib.hid (kt.out.keep hbr)
    have zr : (w1.alloc (.cells #[.int .i64 p1, .int .i64 p2, .int .i64 p3, .int .i64 q1, .int .i64 q2, .int .i64 q3, .int .i64 r1, .int .i64 r2, .int .i64 r3] 23)).heap.size = w1.heap.size + 1 := by simp
    replace HB := Lib.hid (HB.out.trans (hbr.mono HB.out.size))
    have kr := Lib.hid (Lok.new w1 23 #[.int .i64 p1, .int .i64 p2, .int .i64 p3, .int .i64 q1, .int .i64 q2, .int .i64 q3, .int .i64 r1, .int .i64 r2, .int .i64 r3])
    clear hbr
    generalize w1.alloc (.cells #[.int .i64 p1, .int .i64 p2, .int .i64 p3, .int .i64 q1, .int .i64 q2, .int .i64 q3, .int .i64 r1, .int .i64 r2, .int .i64 r3] 23) = Vr at *
    clear zr
    generalize w1.heap.size = gr at *
    (((with_reducible refine (C2.out _ _ _ kr.out).mono ?_); rintro e w2 ⟨rfl, hb2⟩); replace HB := Lib.hid (HB.out.trans (hb2.mono HB.out.size)); replace kt := Lib.hid (kt.out.keep hb2); clear hb2)
    clear C2 kr
    go_wp2
    go_ret
    exact ⟨rfl, HB.out⟩
theorem rsm1_any (a1 a2 a3 p1 p2 p3 q1 q2 q3 r1 r2 r3 : Int) (u : Bool) (hu : (s3 p1 p2 p3 && s3 q1 q2 q3 && s3 r1 r2 r3 && s3 a1 a2 a3) = u) (g : Nat) (T : TypeId) (w : World) (h : Lok w g T #[.int .i64 a1, .int .i64 a2, .int .i64 a3]) :
    Calls Try.prog 22 #[.slice (some ⟨g, 0, none⟩) 1 1, .agg #[.int .i64 p1, .int .i64 p2, .int .i64 p3, .int .i64 q1, .int .i64 q2, .int .i64 q3, .int .i64 r1, .int .i64 r2, .int .i64 r3]] w fun e w' => e = .returned (.bool u) ∧ Below w.heap.size w w' := by
  have q := rsm_any (s3 a1 a2 a3) _ _ 1 1 _ p1 p2 p3 q1 q2 q3 r1 r2 r3 rfl w (rowK_ints (n := 1) (k := 3) [a1, a2, a3] h rfl) (by omega) (by simp [aS3, allB, rowOf])
  rw [show (s3 a1 a2 a3 && (s3 p1 p2 p3 && s3 q1 q2 q3 && s3 r1 r2 r3)) = u from by rw [← hu, Bool.and_comm]] at q
  exact q
theorem rsm2_any (a1 a2 a3 b1 b2 b3 p1 p2 p3 q1 q2 q3 r1 r2 r3 : Int) (u : Bool) (hu : (s3 a1 a2 a3 && s3 b1 b2 b3 && s3 p1 p2 p3 && s3 q1 q2 q3 && s3 r1 r2 r3) = u) (g : Nat) (T : TypeId) (w : World) (h : Lok w g T #[.int .i64 a1, .int .i64 a2, .int .i64 a3, .int .i64 b1, .int .i64 b2, .int .i64 b3]) :
    Calls Try.prog 22 #[.slice (some ⟨g, 0, none⟩) 2 2, .agg #[.int .i64 p1, .int .i64 p2, .int .i64 p3, .int .i64 q1, .int .i64 q2, .int .i64 q3, .int .i64 r1, .int .i64 r2, .int .i64 r3]] w fun e w' => e = .returned (.bool u) ∧ Below w.heap.size w w' := by
  have q := rsm_any (s3 a1 a2 a3 && s3 b1 b2 b3) _ _ 2 2 _ p1 p2 p3 q1 q2 q3 r1 r2 r3 rfl w (rowK_ints (n := 2) (k := 3) [a1, a2, a3, b1, b2, b3] h rfl) (by omega) (by simp [aS3, allB, rowOf])
  rw [show (s3 a1 a2 a3 && s3 b1 b2 b3 && (s3 p1 p2 p3 && s3 q1 q2 q3 && s3 r1 r2 r3)) = u from by rw [← hu, ← Bool.and_assoc, ← Bool.and_assoc]] at q
  exact q
set_option maxRecDepth 100000 in
set_option maxHeartbeats 1000000 in
theorem rsd_any (n : Int) (w : World) :
    Calls Try.prog 24 #[.int .i64 n] w fun e w' => e = .returned (.int .i64 (ordI n 0)) ∧ Below w.heap.size w w' := by
  rcases ordI_ways n 0 with ⟨h, e⟩ | ⟨h, e⟩ | ⟨h, e⟩ <;> rw [e] <;> clear e
  · have d1 : decide (n < 0) = true := decide_eq_true h
    go_enter Try.func24, Try.ntmps24
    go_wp2
    go_ret
    exact ⟨rfl, by (repeat (first | exact Below.refl _ _ | assumption | refine Below.drew ?_ | refine below_drewN ?_ _ | refine Below.setCell ?_ (by first | omega | (simp; done) | (simp; omega)) _ | refine Below.alloc ?_ (by first | omega | (simp; done) | (simp; omega)) _))⟩
  · have d1 : decide (n < 0) = false := decide_eq_false (by omega)
    have d2 : decide (0 < n) = false := decide_eq_false (by omega)
    go_enter Try.func24, Try.ntmps24
    go_wp2
    go_ret
    exact ⟨rfl, by (repeat (first | exact Below.refl _ _ | assumption | refine Below.drew ?_ | refine below_drewN ?_ _ | refine Below.setCell ?_ (by first | omega | (simp; done) | (simp; omega)) _ | refine Below.alloc ?_ (by first | omega | (simp; done) | (simp; omega)) _))⟩
  · have d1 : decide (n < 0) = false := decide_eq_false (by omega)
    have d2 : decide (0 < n) = true := decide_eq_true h
    go_enter Try.func24, Try.ntmps24
    go_wp2
    go_ret
    exact ⟨rfl, by (repeat (first | exact Below.refl _ _ | assumption | refine Below.drew ?_ | refine below_drewN ?_ _ | refine Below.setCell ?_ (by first | omega | (simp; done) | (simp; omega)) _ | refine Below.alloc ?_ (by first | omega | (simp; done) | (simp; omega)) _))⟩
set_option maxRecDepth 100000 in
set_option maxHeartbeats 4000000 in
theorem rside12_any (a1 a2 a3 p1 p2 p3 q1 q2 q3 r1 r2 r3 : Int) (t : Bool) (ht : (s3 p1 p2 p3 && s3 q1 q2 q3 && s3 r1 r2 r3 && s3 a1 a2 a3) = t) (w : World) :
    Calls Try.prog 12 #[.agg #[.int .i64 a1, .int .i64 a2, .int .i64 a3], .agg #[.int .i64 p1, .int .i64 p2, .int .i64 p3, .int .i64 q1, .int .i64 q2, .int .i64 q3, .int .i64 r1, .int .i64 r2, .int .i64 r3]] w fun e' w' => e' = .returned (.tuple #[.int .i64 (ordI (vF t (vo p1 p2 p3 q1 q2 q3 r1 r2 r3 a1 a2 a3)) 0), .int .i64 (rE t)]) ∧ Below w.heap.size w w' := by
  have HB := Lib.hid (Below.refl w.heap.size w)
  have S := Lib.hid (fun g T W h => rsm1_any a1 a2 a3 p1 p2 p3 q1 q2 q3 r1 r2 r3 t ht g T W h)
  have V := Lib.hid (fun W => rvolume_any p1 p2 p3 q1 q2 q3 r1 r2 r3 a1 a2 a3 t ht W)
  cases t with
  | false =>
    rw [vF_no, show rE false = 5 from rfl, show ordI 0 0 = 0 from rfl]
    clear ht V
    go_enter Try.func12, Try.ntmps12
    go_upto_region 1 with fail
    have hba := below_new1 w (.cells #[.int .i64 a1, .int .i64 a2, .int .i64 a3] 23)
    have za : (w.alloc (.cells #[.int .i64 a1, .int .i64 a2, .int .i64 a3] 23)).heap.size = w.heap.size + 1 := by simp
    have HB := Lib.hid hba
    have ka := Lib.hid (Lok.new w 23 #[.int .i64 a1, .int .i64 a2, .int .i64 a3])
    clear hba
    generalize w.alloc (.cells #[.int .i64 a1, .int .i64 a2, .int .i64 a3] 23) = Va at *
    have hbt := below_new1 Va (.cells #[.int .i64 p1, .int .i64 p2, .int .i64 p3, .int .i64 q1, .int .i64 q2, .int .i64 q3, .int .i64 r1, .int .i64 r2, .int .i64 r3] 24)
    replace ka := Lib.hid (ka.out.keep hbt)
    have zt : (Va.alloc (.cells #[.int .i64 p1, .int .i64 p2, .int .i64 p3, .int .i64 q1, .int .i64 q2, .int .i64 q3, .int .i64 r1, .int .i64 r2, .int .i64 r3] 24)).heap.size = Va.heap.size + 1 := by simp
    replace HB := Lib.hid (HB.out.trans (hbt.mono HB.out.size))
    have kt := Lib.hid (Lok.new Va 24 #[.int .i64 p1, .int .i64 p2, .int .i64 p3, .int .i64 q1, .int .i64 q2, .int .i64 q3, .int .i64 r1, .int .i64 r2, .int .i64 r3])
    clear hbt
    generalize Va.alloc (.cells #[.int .i64 p1, .int .i64 p2, .int .i64 p3, .int .i64 q1, .int .i64 q2, .int .i64 q3, .int .i64 r1, .int .i64 r2, .int .i64 r3] 24) = Vt at *
    rw [za] at kt
    clear za zt
    have u0 := keepa (o := .cells #[.int .i64 a1, .int .i64 a2, .int .i64 a3] 23) (kt.out.cell (i := 0) rfl)
    have u1 := keepa (o := .cells #[.int .i64 a1, .int .i64 a2, .int .i64 a3] 23) (kt.out.cell (i := 1) rfl)
    have u2 := keepa (o := .cells #[.int .i64 a1, .int .i64 a2, .int .i64 a3] 23) (kt.out.cell (i := 2) rfl)
    have u3 := keepa (o := .cells #[.int .i64 a1, .int .i64 a2, .int .i64 a3] 23) (kt.out.cell (i := 3) rfl)
    have u4 := keepa (o := .cells #[.int .i64 a1, .int .i64 a2, .int .i64 a3] 23) (kt.out.cell (i := 4) rfl)
    have u5 := keepa (o := .cells #[.int .i64 a1, .int .i64 a2, .int .i64 a3] 23) (kt.out.cell (i := 5) rfl)
    have u6 := keepa (o := .cells #[.int .i64 a1, .int .i64 a2, .int .i64 a3] 23) (kt.out.cell (i := 6) rfl)
    have u7 := keepa (o := .cells #[.int .i64 a1, .int .i64 a2, .int .i64 a3] 23) (kt.out.cell (i := 7) rfl)
    have u8 := keepa (o := .cells #[.int .i64 a1, .int .i64 a2, .int .i64 a3] 23) (kt.out.cell (i := 8) rfl)
    have a0 := ka.out.cell (i := 0) rfl
    have a1 := ka.out.cell (i := 1) rfl
    have a2 := ka.out.cell (i := 2) rfl
    go_wp2_with fail
    clear a0 a1 a2
    clear u0 u1 u2 u3 u4 u5 u6 u7 u8
    have hbr := below_new1 Vt (.cells #[.int .i64 a1, .int .i64 a2, .int .i64 a3] 23)
    replace ka := Lib.hid (ka.out.keep hbr)
    replace kt := Lib.hid (kt.out.keep hbr)
    have zr : (Vt.alloc (.cells #[.int .i64 a1, .int .i64 a2, .int .i64 a3] 23)).heap.size = Vt.heap.size + 1 := by simp
    replace HB := Lib.hid (HB.out.trans (hbr.mono HB.out.size))
    have kr := Lib.hid (Lok.new Vt 23 #[.int .i64 a1, .int .i64 a2, .int .i64 a3])
    clear hbr
    generalize Vt.alloc (.cells #[.int .i64 a1, .int .i64 a2, .int .i64 a3] 23) = Vr at *
    clear zr
    generalize Vt.heap.size = gr at *
    (((with_reducible refine (S.out _ _ _ kr.out).mono ?_); rintro e w1 ⟨rfl, hb1⟩); replace HB := Lib.hid (HB.out.trans (hb1.mono HB.out.size)); replace ka := Lib.hid (ka.out.keep hb1); replace kt := Lib.hid (kt.out.keep hb1); clear hb1)
    clear S kr
    go_wp2
    go_ret2
    exact ⟨rfl, HB.out⟩
  | true =>
    rw [vF_yes, show rE true = 0 from rfl]
    rw [vF_yes, show rE true = 0 from rfl] at V
    clear ht
    generalize vo p1 p2 p3 q1 q2 q3 r1 r2 r3 a1 a2 a3 = n at *
    have D := Lib.hid (fun W => rsd_any n W)
    generalize ordI n 0 = m at *
    go_enter Try.func12, Try.ntmps12
    go_upto_region 1 with fail
    have hba := below_new1 w (.cells #[.int .i64 a1, .int .i64 a2, .int .i64 a3] 23)
    have za : (w.alloc (.cells #[.int .i64 a1, .int .i64 a2, .int .i64 a3] 23)).heap.size = w.heap.size + 1 := by simp
    have HB := Lib.hid hba
    have ka := Lib.hid (Lok.new w 23 #[.int .i64 a1, .int .i64 a2, .int .i64 a3])
    clear hba
    generalize w.alloc (.cells #[.int .i64 a1, .int .i64 a2, .int .i64 a3] 23) = Va at *
    have hbt := below_new1 Va (.cells #[.int .i64 p1, .int .i64 p2, .int .i64 p3, .int .i64 q1, .int .i64 q2, .int .i64 q3, .int .i64 r1, .int .i64 r2, .int .i64 r3] 24)
    replace ka := Lib.hid (ka.out.keep hbt)
    have zt : (Va.alloc (.cells #[.int .i64 p1, .int .i64 p2, .int .i64 p3, .int .i64 q1, .int .i64 q2, .int .i64 q3, .int .i64 r1, .int .i64 r2, .int .i64 r3] 24)).heap.size = Va.heap.size + 1 := by simp
    replace HB := Lib.hid (HB.out.trans (hbt.mono HB.out.size))
    have kt := Lib.hid (Lok.new Va 24 #[.int .i64 p1, .int .i64 p2, .int .i64 p3, .int .i64 q1, .int .i64 q2, .int .i64 q3, .int .i64 r1, .int .i64 r2, .int .i64 r3])
    clear hbt
    generalize Va.alloc (.cells #[.int .i64 p1, .int .i64 p2, .int .i64 p3, .int .i64 q1, .int .i64 q2, .int .i64 q3, .int .i64 r1, .int .i64 r2, .int .i64 r3] 24) = Vt at *
    rw [za] at kt
    clear za zt
    have u0 := keepa (o := .cells #[.int .i64 a1, .int .i64 a2, .int .i64 a3] 23) (kt.out.cell (i := 0) rfl)
    have u1 := keepa (o := .cells #[.int .i64 a1, .int .i64 a2, .int .i64 a3] 23) (kt.out.cell (i := 1) rfl)
    have u2 := keepa (o := .cells #[.int .i64 a1, .int .i64 a2, .int .i64 a3] 23) (kt.out.cell (i := 2) rfl)
    have u3 := keepa (o := .cells #[.int .i64 a1, .int .i64 a2, .int .i64 a3] 23) (kt.out.cell (i := 3) rfl)
    have u4 := keepa (o := .cells #[.int .i64 a1, .int .i64 a2, .int .i64 a3] 23) (kt.out.cell (i := 4) rfl)
    have u5 := keepa (o := .cells #[.int .i64 a1, .int .i64 a2, .int .i64 a3] 23) (kt.out.cell (i := 5) rfl)
    have u6 := keepa (o := .cells #[.int .i64 a1, .int .i64 a2, .int .i64 a3] 23) (kt.out.cell (i := 6) rfl)
    have u7 := keepa (o := .cells #[.int .i64 a1, .int .i64 a2, .int .i64 a3] 23) (kt.out.cell (i := 7) rfl)
    have u8 := keepa (o := .cells #[.int .i64 a1, .int .i64 a2, .int .i64 a3] 23) (kt.out.cell (i := 8) rfl)
    have a0 := ka.out.cell (i := 0) rfl
    have a1 := ka.out.cell (i := 1) rfl
    have a2 := ka.out.cell (i := 2) rfl
    go_wp2_with fail
    clear a0 a1 a2
    clear u0 u1 u2 u3 u4 u5 u6 u7 u8
    have hbr := below_new1 Vt (.cells #[.int .i64 a1, .int .i64 a2, .int .i64 a3] 23)
    replace ka := Lib.hid (ka.out.keep hbr)
    replace kt := Lib.hid (kt.out.keep hbr)
    have zr : (Vt.alloc (.cells #[.int .i64 a1, .int .i64 a2, .int .i64 a3] 23)).heap.size = Vt.heap.size + 1 := by simp
    replace HB := Lib.hid (HB.out.trans (hbr.mono HB.out.size))
    have kr := Lib.hid (Lok.new Vt 23 #[.int .i64 a1, .int .i64 a2, .int .i64 a3])
    clear hbr
    generalize Vt.alloc (.cells #[.int .i64 a1, .int .i64 a2, .int .i64 a3] 23) = Vr at *
    clear zr
    generalize Vt.heap.size = gr at *
    (((with_reducible refine (S.out _ _ _ kr.out).mono ?_); rintro e w1 ⟨rfl, hb1⟩); replace HB := Lib.hid (HB.out.trans (hb1.mono HB.out.size)); replace ka := Lib.hid (ka.out.keep hb1); replace kt := Lib.hid (kt.out.keep hb1); clear hb1)
    clear S kr
    have a0 := ka.out.cell (i := 0) rfl
    have a1 := ka.out.cell (i := 1) rfl
    have a2 := ka.out.cell (i := 2) rfl
    have t0 := kt.out.cell (i := 0) rfl
    have t1 := kt.out.cell (i := 1) rfl
    have t2 := kt.out.cell (i := 2) rfl
    have t3 := kt.out.cell (i := 3) rfl
    have t4 := kt.out.cell (i := 4) rfl
    have t5 := kt.out.cell (i := 5) rfl
    have t6 := kt.out.cell (i := 6) rfl
    have t7 := kt.out.cell (i := 7) rfl
    have t8 := kt.out.cell (i := 8) rfl
    go_wp2_with fail
    clear a0 a1 a2 t0 t1 t2 t3 t4 t5 t6 t7 t8
    (((with_reducible refine (V.out _).mono ?_); rintro e w2 ⟨rfl, hb2⟩); replace HB := Lib.hid (HB.out.trans (hb2.mono HB.out.size)); replace ka := Lib.hid (ka.out.keep hb2); replace kt := Lib.hid (kt.out.keep hb2); clear hb2)
    go_wp2_with fail
    (((with_reducible refine (D.out _).mono ?_); rintro e w3 ⟨rfl, hb3⟩); replace HB := Lib.hid (HB.out.trans (hb3.mono HB.out.size)); replace ka := Lib.hid (ka.out.keep hb3); replace kt := Lib.hid (kt.out.keep hb3); clear hb3)
    go_wp2
    go_ret2
    exact ⟨rfl, HB.out⟩
end Go.Proofs.Ythjjaojimefbeaa
