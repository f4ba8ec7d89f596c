/-
  Contracts of package meet: mutual, Overlap, Touch, In. (gen/MtD.py)
-/
import Derived.Test.YtllamakemgogaaaMtC
namespace Go.Proofs.Ytllamakemgogaaa
open Go.RowKit

/-- How far three corners reach into a triangle. -/
def r3 (a1 a2 b1 b2 c1 c2 d1 d2 e1 e2 f1 f2 : Int) : Int := rc a1 a2 b1 b2 c1 c2 (rowOf 2 [d1, d2, e1, e2, f1, f2]) 3
def r1 (a1 a2 b1 b2 c1 c2 x y : Int) : Int := rc a1 a2 b1 b2 c1 c2 (rowOf 2 [x, y]) 1
def r4 (a1 a2 b1 b2 c1 c2 x1 y1 x2 y2 x3 y3 x4 y4 : Int) : Int := rc a1 a2 b1 b2 c1 c2 (rowOf 2 [x1, y1, x2, y2, x3, y3, x4, y4]) 4
def mu (a1 a2 b1 b2 c1 c2 d1 d2 e1 e2 f1 f2 : Int) : Int := min (r3 a1 a2 b1 b2 c1 c2 d1 d2 e1 e2 f1 f2) (r3 d1 d2 e1 e2 f1 f2 a1 a2 b1 b2 c1 c2)
def mV (t : Bool) (v : Int) : Int := if t = true then v else -1
def mE (t : Bool) : Int := if t = true then 0 else 1
theorem rT_small {a1 a2 b1 b2 c1 c2 : Int} (h : rT a1 a2 b1 b2 c1 c2 = true) : (s2 a1 a2 && s2 b1 b2 && s2 c1 c2) = true := by
  unfold rT at h; rw [Bool.and_eq_true] at h; exact h.1
theorem small_of3 {a1 a2 b1 b2 c1 c2 : Int} (h : (s2 a1 a2 && s2 b1 b2 && s2 c1 c2) = true) : s2 a1 a2 = true ∧ s2 b1 b2 = true ∧ s2 c1 c2 = true := by
  simpa [Bool.and_eq_true, and_assoc] using h
/-- reach at three corners in a block. -/
theorem reach_3 (a1 a2 b1 b2 c1 c2 d1 d2 e1 e2 f1 f2 : Int) (ha : rT a1 a2 b1 b2 c1 c2 = true) (hd : rT d1 d2 e1 e2 f1 f2 = true) (g : Nat) (T : TypeId) (w : World) (h : Lok w g T #[.int .i64 d1, .int .i64 d2, .int .i64 e1, .int .i64 e2, .int .i64 f1, .int .i64 f2]) :
    Calls Try.prog 42 #[.agg #[.int .i64 a1, .int .i64 a2, .int .i64 b1, .int .i64 b2, .int .i64 c1, .int .i64 c2], .slice (some ⟨g, 0, none⟩) 3 3] w fun e w' => e = .returned (.int .i64 (r3 a1 a2 b1 b2 c1 c2 d1 d2 e1 e2 f1 f2)) ∧ Below w.heap.size w w' := by
  obtain ⟨h1, h2, h3⟩ := small_of3 (rT_small hd)
  refine reach_any a1 a2 b1 b2 c1 c2 (rT_small ha) _ 3 3 (rowOf 2 [d1, d2, e1, e2, f1, f2]) w (rowK_ints (n := 3) (k := 2) [d1, d2, e1, e2, f1, f2] h rfl) (by omega) (fun i hi => ?_)
  rcases (show i = 0 ∨ i = 1 ∨ i = 2 by omega) with rfl | rfl | rfl
  · exact h1
  · exact h2
  · exact h3
theorem reach_1 (a1 a2 b1 b2 c1 c2 x y : Int) (ha : rT a1 a2 b1 b2 c1 c2 = true) (hd : s2 x y = true) (g : Nat) (T : TypeId) (w : World) (h : Lok w g T #[.int .i64 x, .int .i64 y]) :
    Calls Try.prog 42 #[.agg #[.int .i64 a1, .int .i64 a2, .int .i64 b1, .int .i64 b2, .int .i64 c1, .int .i64 c2], .slice (some ⟨g, 0, none⟩) 1 1] w fun e w' => e = .returned (.int .i64 (r1 a1 a2 b1 b2 c1 c2 x y)) ∧ Below w.heap.size w w' := by
  refine reach_any a1 a2 b1 b2 c1 c2 (rT_small ha) _ 1 1 (rowOf 2 [x, y]) w (rowK_ints (n := 1) (k := 2) [x, y] h rfl) (by omega) (fun i hi => ?_)
  obtain rfl : i = 0 := by omega
  exact hd
theorem reach_4 (a1 a2 b1 b2 c1 c2 x1 y1 x2 y2 x3 y3 x4 y4 : Int) (ha : rT a1 a2 b1 b2 c1 c2 = true) (h1 : s2 x1 y1 = true) (h2 : s2 x2 y2 = true) (h3 : s2 x3 y3 = true) (h4 : s2 x4 y4 = true) (g : Nat) (T : TypeId) (w : World) (h : Lok w g T #[.int .i64 x1, .int .i64 y1, .int .i64 x2, .int .i64 y2, .int .i64 x3, .int .i64 y3, .int .i64 x4, .int .i64 y4]) :
    Calls Try.prog 42 #[.agg #[.int .i64 a1, .int .i64 a2, .int .i64 b1, .int .i64 b2, .int .i64 c1, .int .i64 c2], .slice (some ⟨g, 0, none⟩) 4 4] w fun e w' => e = .returned (.int .i64 (r4 a1 a2 b1 b2 c1 c2 x1 y1 x2 y2 x3 y3 x4 y4)) ∧ Below w.heap.size w w' := by
  refine reach_any a1 a2 b1 b2 c1 c2 (rT_small ha) _ 4 4 (rowOf 2 [x1, y1, x2, y2, x3, y3, x4, y4]) w (rowK_ints (n := 4) (k := 2) [x1, y1, x2, y2, x3, y3, x4, y4] h rfl) (by omega) (fun i hi => ?_)
  rcases (show i = 0 ∨ i = 1 ∨ i = 2 ∨ i = 3 by omega) with rfl | rfl | rfl | rfl
  · exact h1
  · exact h2
  · exact h3
  · exact h4
def iV (s t : Bool) (v : Int) : Int := if s = true then (if t = true then v + 1 else 0) else 0
def iE (s t : Bool) : Int := if s = true then (if t = true then 0 else 1) else 5
theorem rc_bd (a1 a2 b1 b2 c1 c2 : Int) (F : Nat → Nat → Int) (n : Nat) : -1 ≤ rc a1 a2 b1 b2 c1 c2 F n ∧ rc a1 a2 b1 b2 c1 c2 F n ≤ 1 := by
  have := rk_bd a1 a2 b1 b2 c1 c2 F n 3
  rwa [rk_three] at this
set_option maxRecDepth 100000 in
set_option maxHeartbeats 4000000 in
theorem in_any (x y a1 a2 b1 b2 c1 c2 : Int) (w : World) :
    Calls Try.prog 21 #[.agg #[.int .i64 x, .int .i64 y], .agg #[.int .i64 a1, .int .i64 a2, .int .i64 b1, .int .i64 b2, .int .i64 c1, .int .i64 c2]] w fun e' w' => e' = .returned (.tuple #[.int .i64 (iV (s2 x y) (rT a1 a2 b1 b2 c1 c2) (r1 a1 a2 b1 b2 c1 c2 x y)), .int .i64 (iE (s2 x y) (rT a1 a2 b1 b2 c1 c2))]) ∧ Below w.heap.size w w' := by
  have HB := Lib.hid (Below.refl w.heap.size w)
  have S := Lib.hid (fun g T W h => small2_1 x y _ rfl g T W h)
  have R1 := Lib.hid (fun W => right_any a1 a2 b1 b2 c1 c2 W)
  cases hs : s2 x y with
  | false =>
    rw [hs] at S
    show Calls _ _ _ _ fun e' w' => e' = .returned (.tuple #[.int .i64 0, .int .i64 5]) ∧ _
    clear hs R1
    go_enter Try.func21, Try.ntmps21
    go_upto_region 1 with fail
    have hbz := below_new1 w (.cells #[.int .i64 x, .int .i64 y] 23)
    have zz : (w.alloc (.cells #[.int .i64 x, .int .i64 y] 23)).heap.size = w.heap.size + 1 := by simp
    have HB := Lib.hid hbz
    have kz := Lib.hid (Lok.new w 23 #[.int .i64 x, .int .i64 y])
    clear hbz
    generalize w.alloc (.cells #[.int .i64 x, .int .i64 y] 23) = Vz at *
    have hbu := below_new1 Vz (.cells #[.int .i64 a1, .int .i64 a2, .int .i64 b1, .int .i64 b2, .int .i64 c1, .int .i64 c2] 24)
    replace kz := Lib.hid (kz.out.keep hbu)
    have zu : (Vz.alloc (.cells #[.int .i64 a1, .int .i64 a2, .int .i64 b1, .int .i64 b2, .int .i64 c1, .int .i64 c2] 24)).heap.size = Vz.heap.size + 1 := by simp
    replace HB := Lib.hid (HB.out.trans (hbu.mono HB.out.size))
    have ku := Lib.hid (Lok.new Vz 24 #[.int .i64 a1, .int .i64 a2, .int .i64 b1, .int .i64 b2, .int .i64 c1, .int .i64 c2])
    clear hbu
    generalize Vz.alloc (.cells #[.int .i64 a1, .int .i64 a2, .int .i64 b1, .int .i64 b2, .int .i64 c1, .int .i64 c2] 24) = Vu at *
    rw [zz] at ku
    clear zz zu
    have z0 := kz.out.cell (i := 0) rfl
    have z1 := kz.out.cell (i := 1) rfl
    go_wp2_with fail
    clear z0 z1
    have hbq := below_new1 Vu (.cells #[.int .i64 x, .int .i64 y] 23)
    replace ku := Lib.hid (ku.out.keep hbq)
    replace kz := Lib.hid (kz.out.keep hbq)
    have zq : (Vu.alloc (.cells #[.int .i64 x, .int .i64 y] 23)).heap.size = Vu.heap.size + 1 := by simp
    replace HB := Lib.hid (HB.out.trans (hbq.mono HB.out.size))
    have kq := Lib.hid (Lok.new Vu 23 #[.int .i64 x, .int .i64 y])
    clear hbq
    generalize Vu.alloc (.cells #[.int .i64 x, .int .i64 y] 23) = Vq at *
    clear zq
    (((with_reducible refine (S.out _ _ _ kq.out).mono ?_); rintro e w1 ⟨rfl, hb1⟩); replace HB := Lib.hid (HB.out.trans (hb1.mono HB.out.size)); replace ku := Lib.hid (ku.out.keep hb1); replace kz := Lib.hid (kz.out.keep hb1); clear hb1)
    go_wp2
    go_ret2
    exact ⟨rfl, HB.out⟩
  | true =>
    rw [hs] at S
    cases ha : rT a1 a2 b1 b2 c1 c2 with
    | false =>
      rw [ha] at R1
      show Calls _ _ _ _ fun e' w' => e' = .returned (.tuple #[.int .i64 0, .int .i64 1]) ∧ _
      clear hs ha
      go_enter Try.func21, Try.ntmps21
      go_upto_region 1 with fail
      have hbz := below_new1 w (.cells #[.int .i64 x, .int .i64 y] 23)
      have zz : (w.alloc (.cells #[.int .i64 x, .int .i64 y] 23)).heap.size = w.heap.size + 1 := by simp
      have HB := Lib.hid hbz
      have kz := Lib.hid (Lok.new w 23 #[.int .i64 x, .int .i64 y])
      clear hbz
      generalize w.alloc (.cells #[.int .i64 x, .int .i64 y] 23) = Vz at *
      have hbu := below_new1 Vz (.cells #[.int .i64 a1, .int .i64 a2, .int .i64 b1, .int .i64 b2, .int .i64 c1, .int .i64 c2] 24)
      replace kz := Lib.hid (kz.out.keep hbu)
      have zu : (Vz.alloc (.cells #[.int .i64 a1, .int .i64 a2, .int .i64 b1, .int .i64 b2, .int .i64 c1, .int .i64 c2] 24)).heap.size = Vz.heap.size + 1 := by simp
      replace HB := Lib.hid (HB.out.trans (hbu.mono HB.out.size))
      have ku := Lib.hid (Lok.new Vz 24 #[.int .i64 a1, .int .i64 a2, .int .i64 b1, .int .i64 b2, .int .i64 c1, .int .i64 c2])
      clear hbu
      generalize Vz.alloc (.cells #[.int .i64 a1, .int .i64 a2, .int .i64 b1, .int .i64 b2, .int .i64 c1, .int .i64 c2] 24) = Vu at *
      rw [zz] at ku
      clear zz zu
      have z0 := kz.out.cell (i := 0) rfl
      have z1 := kz.out.cell (i := 1) rfl
      go_wp2_with fail
      clear z0 z1
      have hbq := below_new1 Vu (.cells #[.int .i64 x, .int .i64 y] 23)
      replace ku := Lib.hid (ku.out.keep hbq)
      replace kz := Lib.hid (kz.out.keep hbq)
      have zq : (Vu.alloc (.cells #[.int .i64 x, .int .i64 y] 23)).heap.size = Vu.heap.size + 1 := by simp
      replace HB := Lib.hid (HB.out.trans (hbq.mono HB.out.size))
      have kq := Lib.hid (Lok.new Vu 23 #[.int .i64 x, .int .i64 y])
      clear hbq
      generalize Vu.alloc (.cells #[.int .i64 x, .int .i64 y] 23) = Vq at *
      clear zq
      (((with_reducible refine (S.out _ _ _ kq.out).mono ?_); rintro e w1 ⟨rfl, hb1⟩); replace HB := Lib.hid (HB.out.trans (hb1.mono HB.out.size)); replace ku := Lib.hid (ku.out.keep hb1); replace kz := Lib.hid (kz.out.keep hb1); clear hb1)
      have u0 := ku.out.cell (i := 0) rfl
      have u1 := ku.out.cell (i := 1) rfl
      have u2 := ku.out.cell (i := 2) rfl
      have u3 := ku.out.cell (i := 3) rfl
      have u4 := ku.out.cell (i := 4) rfl
      have u5 := ku.out.cell (i := 5) rfl
      go_wp2_with fail
      clear u0 u1 u2 u3 u4 u5
      (((with_reducible refine (R1.out _).mono ?_); rintro e w2 ⟨rfl, hb2⟩); replace HB := Lib.hid (HB.out.trans (hb2.mono HB.out.size)); replace kz := Lib.hid (kz.out.keep hb2); replace ku := Lib.hid (ku.out.keep hb2); clear hb2)
      go_wp2
      go_ret2
      exact ⟨rfl, HB.out⟩
    | true =>
      rw [ha] at R1
      show Calls _ _ _ _ fun e' w' => e' = .returned (.tuple #[.int .i64 (r1 a1 a2 b1 b2 c1 c2 x y + 1), .int .i64 0]) ∧ _
      have RE := Lib.hid (fun g T W h => reach_1 a1 a2 b1 b2 c1 c2 x y ha hs g T W h)
      have hb := rc_bd a1 a2 b1 b2 c1 c2 (rowOf 2 [x, y]) 1
      rw [show rc a1 a2 b1 b2 c1 c2 (rowOf 2 [x, y]) 1 = r1 a1 a2 b1 b2 c1 c2 x y from rfl] at hb
      generalize r1 a1 a2 b1 b2 c1 c2 x y = m at *
      clear hs ha
      rcases (show m = -1 ∨ m = 0 ∨ m = 1 by omega) with rfl | rfl | rfl
      · go_enter Try.func21, Try.ntmps21
        go_upto_region 1 with fail
        have hbz := below_new1 w (.cells #[.int .i64 x, .int .i64 y] 23)
        have zz : (w.alloc (.cells #[.int .i64 x, .int .i64 y] 23)).heap.size = w.heap.size + 1 := by simp
        have HB := Lib.hid hbz
        have kz := Lib.hid (Lok.new w 23 #[.int .i64 x, .int .i64 y])
        clear hbz
        generalize w.alloc (.cells #[.int .i64 x, .int .i64 y] 23) = Vz at *
        have hbu := below_new1 Vz (.cells #[.int .i64 a1, .int .i64 a2, .int .i64 b1, .int .i64 b2, .int .i64 c1, .int .i64 c2] 24)
        replace kz := Lib.hid (kz.out.keep hbu)
        have zu : (Vz.alloc (.cells #[.int .i64 a1, .int .i64 a2, .int .i64 b1, .int .i64 b2, .int .i64 c1, .int .i64 c2] 24)).heap.size = Vz.heap.size + 1 := by simp
        replace HB := Lib.hid (HB.out.trans (hbu.mono HB.out.size))
        have ku := Lib.hid (Lok.new Vz 24 #[.int .i64 a1, .int .i64 a2, .int .i64 b1, .int .i64 b2, .int .i64 c1, .int .i64 c2])
        clear hbu
        generalize Vz.alloc (.cells #[.int .i64 a1, .int .i64 a2, .int .i64 b1, .int .i64 b2, .int .i64 c1, .int .i64 c2] 24) = Vu at *
        rw [zz] at ku
        clear zz zu
        have z0 := kz.out.cell (i := 0) rfl
        have z1 := kz.out.cell (i := 1) rfl
        go_wp2_with fail
        clear z0 z1
        have hbq := below_new1 Vu (.cells #[.int .i64 x, .int .i64 y] 23)
        replace ku := Lib.hid (ku.out.keep hbq)
        replace kz := Lib.hid (kz.out.keep hbq)
        have zq : (Vu.alloc (.cells #[.int .i64 x, .int .i64 y] 23)).heap.size = Vu.heap.size + 1 := by simp
        replace HB := Lib.hid (HB.out.trans (hbq.mono HB.out.size))
        have kq := Lib.hid (Lok.new Vu 23 #[.int .i64 x, .int .i64 y])
        clear hbq
        generalize Vu.alloc (.cells #[.int .i64 x, .int .i64 y] 23) = Vq at *
        clear zq
        (((with_reducible refine (S.out _ _ _ kq.out).mono ?_); rintro e w1 ⟨rfl, hb1⟩); replace HB := Lib.hid (HB.out.trans (hb1.mono HB.out.size)); replace ku := Lib.hid (ku.out.keep hb1); replace kz := Lib.hid (kz.out.keep hb1); clear hb1)
        have u0 := ku.out.cell (i := 0) rfl
        have u1 := ku.out.cell (i := 1) rfl
        have u2 := ku.out.cell (i := 2) rfl
        have u3 := ku.out.cell (i := 3) rfl
        have u4 := ku.out.cell (i := 4) rfl
        have u5 := ku.out.cell (i := 5) rfl
        go_wp2_with fail
        clear u0 u1 u2 u3 u4 u5
        (((with_reducible refine (R1.out _).mono ?_); rintro e w2 ⟨rfl, hb2⟩); replace HB := Lib.hid (HB.out.trans (hb2.mono HB.out.size)); replace kz := Lib.hid (kz.out.keep hb2); replace ku := Lib.hid (ku.out.keep hb2); clear hb2)
        have u0 := ku.out.cell (i := 0) rfl
        have u1 := ku.out.cell (i := 1) rfl
        have u2 := ku.out.cell (i := 2) rfl
        have u3 := ku.out.cell (i := 3) rfl
        have u4 := ku.out.cell (i := 4) rfl
        have u5 := ku.out.cell (i := 5) rfl
        have z0 := kz.out.cell (i := 0) rfl
        have z1 := kz.out.cell (i := 1) rfl
        go_wp2_with fail
        clear u0 u1 u2 u3 u4 u5 z0 z1
        have hbo := below_new1 w2 (.cells #[.int .i64 x, .int .i64 y] 23)
        replace ku := Lib.hid (ku.out.keep hbo)
        replace kz := Lib.hid (kz.out.keep hbo)
        have zo : (w2.alloc (.cells #[.int .i64 x, .int .i64 y] 23)).heap.size = w2.heap.size + 1 := by simp
        replace HB := Lib.hid (HB.out.trans (hbo.mono HB.out.size))
        have ko := Lib.hid (Lok.new w2 23 #[.int .i64 x, .int .i64 y])
        clear hbo
        generalize w2.alloc (.cells #[.int .i64 x, .int .i64 y] 23) = Vo at *
        clear zo
        (((with_reducible refine (RE.out _ _ _ ko.out).mono ?_); rintro e w3 ⟨rfl, hb3⟩); replace HB := Lib.hid (HB.out.trans (hb3.mono HB.out.size)); replace ku := Lib.hid (ku.out.keep hb3); replace kz := Lib.hid (kz.out.keep hb3); clear hb3)
        go_wp2
        go_ret2
        exact ⟨rfl, HB.out⟩
      · go_enter Try.func21, Try.ntmps21
        go_upto_region 1 with fail
        have hbz := below_new1 w (.cells #[.int .i64 x, .int .i64 y] 23)
        have zz : (w.alloc (.cells #[.int .i64 x, .int .i64 y] 23)).heap.size = w.heap.size + 1 := by simp
        have HB := Lib.hid hbz
        have kz := Lib.hid (Lok.new w 23 #[.int .i64 x, .int .i64 y])
        clear hbz
        generalize w.alloc (.cells #[.int .i64 x, .int .i64 y] 23) = Vz at *
        have hbu := below_new1 Vz (.cells #[.int .i64 a1, .int .i64 a2, .int .i64 b1, .int .i64 b2, .int .i64 c1, .int .i64 c2] 24)
        replace kz := Lib.hid (kz.out.keep hbu)
        have zu : (Vz.alloc (.cells #[.int .i64 a1, .int .i64 a2, .int .i64 b1, .int .i64 b2, .int .i64 c1, .int .i64 c2] 24)).heap.size = Vz.heap.size + 1 := by simp
        replace HB := Lib.hid (HB.out.trans (hbu.mono HB.out.size))
        have ku := Lib.hid (Lok.new Vz 24 #[.int .i64 a1, .int .i64 a2, .int .i64 b1, .int .i64 b2, .int .i64 c1, .int .i64 c2])
        clear hbu
        generalize Vz.alloc (.cells #[.int .i64 a1, .int .i64 a2, .int .i64 b1, .int .i64 b2, .int .i64 c1, .int .i64 c2] 24) = Vu at *
        rw [zz] at ku
        clear zz zu
        have z0 := kz.out.cell (i := 0) rfl
        have z1 := kz.out.cell (i := 1) rfl
        go_wp2_with fail
        clear z0 z1
        have hbq := below_new1 Vu (.cells #[.int .i64 x, .int .i64 y] 23)
        replace ku := Lib.hid (ku.out.keep hbq)
        replace kz := Lib.hid (kz.out.keep hbq)
        have zq : (Vu.alloc (.cells #[.int .i64 x, .int .i64 y] 23)).heap.size = Vu.heap.size + 1 := by simp
        replace HB := Lib.hid (HB.out.trans (hbq.mono HB.out.size))
        have kq := Lib.hid (Lok.new Vu 23 #[.int .i64 x, .int .i64 y])
        clear hbq
        generalize Vu.alloc (.cells #[.int .i64 x, .int .i64 y] 23) = Vq at *
        clear zq
        (((with_reducible refine (S.out _ _ _ kq.out).mono ?_); rintro e w1 ⟨rfl, hb1⟩); replace HB := Lib.hid (HB.out.trans (hb1.mono HB.out.size)); replace ku := Lib.hid (ku.out.keep hb1); replace kz := Lib.hid (kz.out.keep hb1); clear hb1)
        have u0 := ku.out.cell (i := 0) rfl
        have u1 := ku.out.cell (i := 1) rfl
        have u2 := ku.out.cell (i := 2) rfl
        have u3 := ku.out.cell (i := 3) rfl
        have u4 := ku.out.cell (i := 4) rfl
        have u5 := ku.out.cell (i := 5) rfl
        go_wp2_with fail
        clear u0 u1 u2 u3 u4 u5
        (((with_reducible refine (R1.out _).mono ?_); rintro e w2 ⟨rfl, hb2⟩); replace HB := Lib.hid (HB.out.trans (hb2.mono HB.out.size)); replace kz := Lib.hid (kz.out.keep hb2); replace ku := Lib.hid (ku.out.keep hb2); clear hb2)
        have u0 := ku.out.cell (i := 0) rfl
        have u1 := ku.out.cell (i := 1) rfl
        have u2 := ku.out.cell (i := 2) rfl
        have u3 := ku.out.cell (i := 3) rfl
        have u4 := ku.out.cell (i := 4) rfl
        have u5 := ku.out.cell (i := 5) rfl
        have z0 := kz.out.cell (i := 0) rfl
        have z1 := kz.out.cell (i := 1) rfl
        go_wp2_with fail
        clear u0 u1 u2 u3 u4 u5 z0 z1
        have hbo := below_new1 w2 (.cells #[.int .i64 x, .int .i64 y] 23)
        replace ku := Lib.hid (ku.out.keep hbo)
        replace kz := Lib.hid (kz.out.keep hbo)
        have zo : (w2.alloc (.cells #[.int .i64 x, .int .i64 y] 23)).heap.size = w2.heap.size + 1 := by simp
        replace HB := Lib.hid (HB.out.trans (hbo.mono HB.out.size))
        have ko := Lib.hid (Lok.new w2 23 #[.int .i64 x, .int .i64 y])
        clear hbo
        generalize w2.alloc (.cells #[.int .i64 x, .int .i64 y] 23) = Vo at *
        clear zo
        (((with_reducible refine (RE.out _ _ _ ko.out).mono ?_); rintro e w3 ⟨rfl, hb3⟩); replace HB := Lib.hid (HB.out.trans (hb3.mono HB.out.size)); replace ku := Lib.hid (ku.out.keep hb3); replace kz := Lib.hid (kz.out.keep hb3); clear hb3)
        go_wp2
        go_ret2
        exact ⟨rfl, HB.out⟩
      · go_enter Try.func21, Try.ntmps21
        go_upto_region 1 with fail
        have hbz := below_new1 w (.cells #[.int .i64 x, .int .i64 y] 23)
        have zz : (w.alloc (.cells #[.int .i64 x, .int .i64 y] 23)).heap.size = w.heap.size + 1 := by simp
        have HB := Lib.hid hbz
        have kz := Lib.hid (Lok.new w 23 #[.int .i64 x, .int .i64 y])
        clear hbz
        generalize w.alloc (.cells #[.int .i64 x, .int .i64 y] 23) = Vz at *
        have hbu := below_new1 Vz (.cells #[.int .i64 a1, .int .i64 a2, .int .i64 b1, .int .i64 b2, .int .i64 c1, .int .i64 c2] 24)
        replace kz := Lib.hid (kz.out.keep hbu)
        have zu : (Vz.alloc (.cells #[.int .i64 a1, .int .i64 a2, .int .i64 b1, .int .i64 b2, .int .i64 c1, .int .i64 c2] 24)).heap.size = Vz.heap.size + 1 := by simp
        replace HB := Lib.hid (HB.out.trans (hbu.mono HB.out.size))
        have ku := Lib.hid (Lok.new Vz 24 #[.int .i64 a1, .int .i64 a2, .int .i64 b1, .int .i64 b2, .int .i64 c1, .int .i64 c2])
        clear hbu
        generalize Vz.alloc (.cells #[.int .i64 a1, .int .i64 a2, .int .i64 b1, .int .i64 b2, .int .i64 c1, .int .i64 c2] 24) = Vu at *
        rw [zz] at ku
        clear zz zu
        have z0 := kz.out.cell (i := 0) rfl
        have z1 := kz.out.cell (i := 1) rfl
        go_wp2_with fail
        clear z0 z1
        have hbq := below_new1 Vu (.cells #[.int .i64 x, .int .i64 y] 23)
        replace ku := Lib.hid (ku.out.keep hbq)
        replace kz := Lib.hid (kz.out.keep hbq)
        have zq : (Vu.alloc (.cells #[.int .i64 x, .int .i64 y] 23)).heap.size = Vu.heap.size + 1 := by simp
        replace HB := Lib.hid (HB.out.trans (hbq.mono HB.out.size))
        have kq := Lib.hid (Lok.new Vu 23 #[.int .i64 x, .int .i64 y])
        clear hbq
        generalize Vu.alloc (.cells #[.int .i64 x, .int .i64 y] 23) = Vq at *
        clear zq
        (((with_reducible refine (S.out _ _ _ kq.out).mono ?_); rintro e w1 ⟨rfl, hb1⟩); replace HB := Lib.hid (HB.out.trans (hb1.mono HB.out.size)); replace ku := Lib.hid (ku.out.keep hb1); replace kz := Lib.hid (kz.out.keep hb1); clear hb1)
        have u0 := ku.out.cell (i := 0) rfl
        have u1 := ku.out.cell (i := 1) rfl
        have u2 := ku.out.cell (i := 2) rfl
        have u3 := ku.out.cell (i := 3) rfl
        have u4 := ku.out.cell (i := 4) rfl
        have u5 := ku.out.cell (i := 5) rfl
        go_wp2_with fail
        clear u0 u1 u2 u3 u4 u5
        (((with_reducible refine (R1.out _).mono ?_); rintro e w2 ⟨rfl, hb2⟩); replace HB := Lib.hid (HB.out.trans (hb2.mono HB.out.size)); replace kz := Lib.hid (kz.out.keep hb2); replace ku := Lib.hid (ku.out.keep hb2); clear hb2)
        have u0 := ku.out.cell (i := 0) rfl
        have u1 := ku.out.cell (i := 1) rfl
        have u2 := ku.out.cell (i := 2) rfl
        have u3 := ku.out.cell (i := 3) rfl
        have u4 := ku.out.cell (i := 4) rfl
        have u5 := ku.out.cell (i := 5) rfl
        have z0 := kz.out.cell (i := 0) rfl
        have z1 := kz.out.cell (i := 1) rfl
        go_wp2_with fail
        clear u0 u1 u2 u3 u4 u5 z0 z1
        have hbo := below_new1 w2 (.cells #[.int .i64 x, .int .i64 y] 23)
        replace ku := Lib.hid (ku.out.keep hbo)
        replace kz := Lib.hid (kz.out.keep hbo)
        have zo : (w2.alloc (.cells #[.int .i64 x, .int .i64 y] 23)).heap.size = w2.heap.size + 1 := by simp
        replace HB := Lib.hid (HB.out.trans (hbo.mono HB.out.size))
        have ko := Lib.hid (Lok.new w2 23 #[.int .i64 x, .int .i64 y])
        clear hbo
        generalize w2.alloc (.cells #[.int .i64 x, .int .i64 y] 23) = Vo at *
        clear zo
        (((with_reducible refine (RE.out _ _ _ ko.out).mono ?_); rintro e w3 ⟨rfl, hb3⟩); replace HB := Lib.hid (HB.out.trans (hb3.mono HB.out.size)); replace ku := Lib.hid (ku.out.keep hb3); replace kz := Lib.hid (kz.out.keep hb3); clear hb3)
        go_wp2
        go_ret2
        exact ⟨rfl, HB.out⟩
end Go.Proofs.Ytllamakemgogaaa
