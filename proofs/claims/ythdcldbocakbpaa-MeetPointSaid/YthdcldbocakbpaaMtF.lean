/-
  Contract of package meet: Square. (gen/MtF.py)
-/
import Derived.Test.YthdcldbocakbpaaMtE
namespace Go.Proofs.Ythdcldbocakbpaa
open Go.RowKit

/-- The square from x y, s long, is one of small points. -/
def sqS (x y s : Int) : Bool := decide (1 ≤ s) && decide (s ≤ 4096) && s2 x y && s2 (x + s) (y + s)
def sqE (u t : Bool) : Int := if u = true then (if t = true then 0 else 1) else 5
def sqV (x y s a1 a2 b1 b2 c1 c2 : Int) : Bool := sqS x y s && rT a1 a2 b1 b2 c1 c2 && cB x y (x + s) (y + s) a1 a2 b1 b2 c1 c2 && (r4 a1 a2 b1 b2 c1 c2 x y (x + s) y (x + s) (y + s) x (y + s) != -1)
theorem sqS_iff {x y s : Int} : sqS x y s = true ↔ 1 ≤ s ∧ s ≤ 4096 ∧ s2 x y = true ∧ s2 (x + s) (y + s) = true := by
  unfold sqS; simp [Bool.and_eq_true, and_assoc]
theorem s2_corner {x y fx fy : Int} (h : s2 x y = true) (k : s2 fx fy = true) : s2 fx y = true ∧ s2 x fy = true := by
  obtain ⟨a, b⟩ := s2_iff.1 h
  obtain ⟨c, d⟩ := s2_iff.1 k
  exact ⟨s2_iff.2 ⟨c, b⟩, s2_iff.2 ⟨a, d⟩⟩
theorem sq_off {x y s : Int} (t : Bool) (h : sqS x y s = false) (a1 a2 b1 b2 c1 c2 : Int) : sqV x y s a1 a2 b1 b2 c1 c2 = false ∧ sqE (sqS x y s) t = 5 := by
  unfold sqV sqE; rw [h]; exact ⟨rfl, rfl⟩
set_option maxRecDepth 100000 in
set_option maxHeartbeats 4000000 in
theorem square_any (x y s a1 a2 b1 b2 c1 c2 : Int) (w : World) :
    Calls Try.prog 14 #[.agg #[.int .i64 x, .int .i64 y], .int .i64 s, .agg #[.int .i64 a1, .int .i64 a2, .int .i64 b1, .int .i64 b2, .int .i64 c1, .int .i64 c2]] w fun e' w' => e' = .returned (.tuple #[.bool (sqV x y s a1 a2 b1 b2 c1 c2), .int .i64 (sqE (sqS x y s) (rT a1 a2 b1 b2 c1 c2))]) ∧ Below w.heap.size w w' := by
  have HB := Lib.hid (Below.refl w.heap.size w)
  have R1 := Lib.hid (fun W => right_any a1 a2 b1 b2 c1 c2 W)
  have CR := Lib.hid (fun fx fy W => crosses_any x y fx fy a1 a2 b1 b2 c1 c2 W)
  obtain ⟨fx, wx⟩ : ∃ v, IntKind.i64.wrap (x + s) = v := ⟨_, rfl⟩
  obtain ⟨fy, wy⟩ : ∃ v, IntKind.i64.wrap (y + s) = v := ⟨_, rfl⟩
  by_cases h1 : 1 ≤ s
  · by_cases h2 : s ≤ 4096
    · have d1 : decide (s < 1) = false := decide_eq_false (by omega)
      have d2 : decide (4096 < s) = false := decide_eq_false (by omega)
      have SQ := Lib.hid (fun g T W h => small2_2 x y fx fy _ rfl g T W h)
      cases hp : s2 x y with
      | false =>
        rw [hp, Bool.false_and] at SQ
        obtain ⟨e1, e2⟩ := sq_off (rT a1 a2 b1 b2 c1 c2) (show sqS x y s = false from by unfold sqS; rw [hp]; simp) a1 a2 b1 b2 c1 c2
        rw [e1, e2]
        clear e1 e2 hp R1 CR
        go_enter Try.func14, Try.ntmps14
        go_upto_region 1 with fail
        have hbp := below_new1 w (.cells #[.int .i64 x, .int .i64 y] 23)
        have zp : (w.alloc (.cells #[.int .i64 x, .int .i64 y] 23)).heap.size = w.heap.size + 1 := by simp
        have HB := Lib.hid hbp
        have kp := Lib.hid (Lok.new w 23 #[.int .i64 x, .int .i64 y])
        clear hbp
        generalize w.alloc (.cells #[.int .i64 x, .int .i64 y] 23) = Vp at *
        have hbt := below_new1 Vp (.cells #[.int .i64 a1, .int .i64 a2, .int .i64 b1, .int .i64 b2, .int .i64 c1, .int .i64 c2] 24)
        replace kp := Lib.hid (kp.out.keep hbt)
        have zt : (Vp.alloc (.cells #[.int .i64 a1, .int .i64 a2, .int .i64 b1, .int .i64 b2, .int .i64 c1, .int .i64 c2] 24)).heap.size = Vp.heap.size + 1 := by simp
        replace HB := Lib.hid (HB.out.trans (hbt.mono HB.out.size))
        have kt := Lib.hid (Lok.new Vp 24 #[.int .i64 a1, .int .i64 a2, .int .i64 b1, .int .i64 b2, .int .i64 c1, .int .i64 c2])
        clear hbt
        generalize Vp.alloc (.cells #[.int .i64 a1, .int .i64 a2, .int .i64 b1, .int .i64 b2, .int .i64 c1, .int .i64 c2] 24) = Vt at *
        rw [zp] at kt
        clear zp zt
        have p0 := kp.out.cell (i := 0) rfl
        have p1 := kp.out.cell (i := 1) rfl
        go_upto_region 2 with fail
        have hbf := below_new1 Vt (.cells #[.int .i64 fx, .int .i64 fy] 23)
        replace kp := Lib.hid (kp.out.keep hbf)
        replace kt := Lib.hid (kt.out.keep hbf)
        have zf : (Vt.alloc (.cells #[.int .i64 fx, .int .i64 fy] 23)).heap.size = Vt.heap.size + 1 := by simp
        replace HB := Lib.hid (HB.out.trans (hbf.mono HB.out.size))
        have kf := Lib.hid (Lok.new Vt 23 #[.int .i64 fx, .int .i64 fy])
        clear hbf
        generalize Vt.alloc (.cells #[.int .i64 fx, .int .i64 fy] 23) = Vf at *
        clear zf
        clear p0 p1
        have p0 := kp.out.cell (i := 0) rfl
        have p1 := kp.out.cell (i := 1) rfl
        have f0 := kf.out.cell (i := 0) rfl
        have f1 := kf.out.cell (i := 1) rfl
        go_wp2_with fail
        have hbq := below_new1 Vf (.cells #[.int .i64 x, .int .i64 y, .int .i64 fx, .int .i64 fy] 23)
        replace kp := Lib.hid (kp.out.keep hbq)
        replace kt := Lib.hid (kt.out.keep hbq)
        replace kf := Lib.hid (kf.out.keep hbq)
        have zq : (Vf.alloc (.cells #[.int .i64 x, .int .i64 y, .int .i64 fx, .int .i64 fy] 23)).heap.size = Vf.heap.size + 1 := by simp
        replace HB := Lib.hid (HB.out.trans (hbq.mono HB.out.size))
        have kq := Lib.hid (Lok.new Vf 23 #[.int .i64 x, .int .i64 y, .int .i64 fx, .int .i64 fy])
        clear hbq
        generalize Vf.alloc (.cells #[.int .i64 x, .int .i64 y, .int .i64 fx, .int .i64 fy] 23) = Vq at *
        clear zq
        clear p0 p1 f0 f1
        (((with_reducible refine (SQ.out _ _ _ kq.out).mono ?_); rintro e w1 ⟨rfl, hb1⟩); replace HB := Lib.hid (HB.out.trans (hb1.mono HB.out.size)); replace kp := Lib.hid (kp.out.keep hb1); replace kt := Lib.hid (kt.out.keep hb1); replace kf := Lib.hid (kf.out.keep hb1); clear hb1)
        clear kq
        go_wp2
        go_ret2
        exact ⟨rfl, HB.out⟩
      | true =>
        have bd := s2_iff.1 hp
        unfold SM at bd
        have ex : fx = x + s := wx.symm.trans (IntWalk.i64_in _ (by omega))
        have ey : fy = y + s := wy.symm.trans (IntWalk.i64_in _ (by omega))
        cases hq : s2 fx fy with
        | false =>
          rw [hp, hq] at SQ
          obtain ⟨e1, e2⟩ := sq_off (rT a1 a2 b1 b2 c1 c2) (show sqS x y s = false from by unfold sqS; rw [← ex, ← ey, hq]; simp) a1 a2 b1 b2 c1 c2
          rw [e1, e2]
          clear e1 e2 hp hq R1 CR bd ex ey
          go_enter Try.func14, Try.ntmps14
          go_upto_region 1 with fail
          have hbp := below_new1 w (.cells #[.int .i64 x, .int .i64 y] 23)
          have zp : (w.alloc (.cells #[.int .i64 x, .int .i64 y] 23)).heap.size = w.heap.size + 1 := by simp
          have HB := Lib.hid hbp
          have kp := Lib.hid (Lok.new w 23 #[.int .i64 x, .int .i64 y])
          clear hbp
          generalize w.alloc (.cells #[.int .i64 x, .int .i64 y] 23) = Vp at *
          have hbt := below_new1 Vp (.cells #[.int .i64 a1, .int .i64 a2, .int .i64 b1, .int .i64 b2, .int .i64 c1, .int .i64 c2] 24)
          replace kp := Lib.hid (kp.out.keep hbt)
          have zt : (Vp.alloc (.cells #[.int .i64 a1, .int .i64 a2, .int .i64 b1, .int .i64 b2, .int .i64 c1, .int .i64 c2] 24)).heap.size = Vp.heap.size + 1 := by simp
          replace HB := Lib.hid (HB.out.trans (hbt.mono HB.out.size))
          have kt := Lib.hid (Lok.new Vp 24 #[.int .i64 a1, .int .i64 a2, .int .i64 b1, .int .i64 b2, .int .i64 c1, .int .i64 c2])
          clear hbt
          generalize Vp.alloc (.cells #[.int .i64 a1, .int .i64 a2, .int .i64 b1, .int .i64 b2, .int .i64 c1, .int .i64 c2] 24) = Vt at *
          rw [zp] at kt
          clear zp zt
          have p0 := kp.out.cell (i := 0) rfl
          have p1 := kp.out.cell (i := 1) rfl
          go_upto_region 2 with fail
          have hbf := below_new1 Vt (.cells #[.int .i64 fx, .int .i64 fy] 23)
          replace kp := Lib.hid (kp.out.keep hbf)
          replace kt := Lib.hid (kt.out.keep hbf)
          have zf : (Vt.alloc (.cells #[.int .i64 fx, .int .i64 fy] 23)).heap.size = Vt.heap.size + 1 := by simp
          replace HB := Lib.hid (HB.out.trans (hbf.mono HB.out.size))
          have kf := Lib.hid (Lok.new Vt 23 #[.int .i64 fx, .int .i64 fy])
          clear hbf
          generalize Vt.alloc (.cells #[.int .i64 fx, .int .i64 fy] 23) = Vf at *
          clear zf
          clear p0 p1
          have p0 := kp.out.cell (i := 0) rfl
          have p1 := kp.out.cell (i := 1) rfl
          have f0 := kf.out.cell (i := 0) rfl
          have f1 := kf.out.cell (i := 1) rfl
          go_wp2_with fail
          have hbq := below_new1 Vf (.cells #[.int .i64 x, .int .i64 y, .int .i64 fx, .int .i64 fy] 23)
          replace kp := Lib.hid (kp.out.keep hbq)
          replace kt := Lib.hid (kt.out.keep hbq)
          replace kf := Lib.hid (kf.out.keep hbq)
          have zq : (Vf.alloc (.cells #[.int .i64 x, .int .i64 y, .int .i64 fx, .int .i64 fy] 23)).heap.size = Vf.heap.size + 1 := by simp
          replace HB := Lib.hid (HB.out.trans (hbq.mono HB.out.size))
          have kq := Lib.hid (Lok.new Vf 23 #[.int .i64 x, .int .i64 y, .int .i64 fx, .int .i64 fy])
          clear hbq
          generalize Vf.alloc (.cells #[.int .i64 x, .int .i64 y, .int .i64 fx, .int .i64 fy] 23) = Vq at *
          clear zq
          clear p0 p1 f0 f1
          (((with_reducible refine (SQ.out _ _ _ kq.out).mono ?_); rintro e w1 ⟨rfl, hb1⟩); replace HB := Lib.hid (HB.out.trans (hb1.mono HB.out.size)); replace kp := Lib.hid (kp.out.keep hb1); replace kt := Lib.hid (kt.out.keep hb1); replace kf := Lib.hid (kf.out.keep hb1); clear hb1)
          clear kq
          go_wp2
          go_ret2
          exact ⟨rfl, HB.out⟩
        | true =>
          rw [hp, hq] at SQ
          have eS : sqS x y s = true := sqS_iff.2 ⟨h1, h2, hp, by rw [← ex, ← ey]; exact hq⟩
          unfold sqV sqE
          rw [eS, ← ex, ← ey]
          clear eS bd ex ey
          cases ha : rT a1 a2 b1 b2 c1 c2 with
          | false =>
            rw [ha] at R1
            show Calls _ _ _ _ fun e' w' => e' = .returned (.tuple #[.bool false, .int .i64 1]) ∧ _
            clear ha hp hq CR
            go_enter Try.func14, Try.ntmps14
            go_upto_region 1 with fail
            have hbp := below_new1 w (.cells #[.int .i64 x, .int .i64 y] 23)
            have zp : (w.alloc (.cells #[.int .i64 x, .int .i64 y] 23)).heap.size = w.heap.size + 1 := by simp
            have HB := Lib.hid hbp
            have kp := Lib.hid (Lok.new w 23 #[.int .i64 x, .int .i64 y])
            clear hbp
            generalize w.alloc (.cells #[.int .i64 x, .int .i64 y] 23) = Vp at *
            have hbt := below_new1 Vp (.cells #[.int .i64 a1, .int .i64 a2, .int .i64 b1, .int .i64 b2, .int .i64 c1, .int .i64 c2] 24)
            replace kp := Lib.hid (kp.out.keep hbt)
            have zt : (Vp.alloc (.cells #[.int .i64 a1, .int .i64 a2, .int .i64 b1, .int .i64 b2, .int .i64 c1, .int .i64 c2] 24)).heap.size = Vp.heap.size + 1 := by simp
            replace HB := Lib.hid (HB.out.trans (hbt.mono HB.out.size))
            have kt := Lib.hid (Lok.new Vp 24 #[.int .i64 a1, .int .i64 a2, .int .i64 b1, .int .i64 b2, .int .i64 c1, .int .i64 c2])
            clear hbt
            generalize Vp.alloc (.cells #[.int .i64 a1, .int .i64 a2, .int .i64 b1, .int .i64 b2, .int .i64 c1, .int .i64 c2] 24) = Vt at *
            rw [zp] at kt
            clear zp zt
            have p0 := kp.out.cell (i := 0) rfl
            have p1 := kp.out.cell (i := 1) rfl
            go_upto_region 2 with fail
            have hbf := below_new1 Vt (.cells #[.int .i64 fx, .int .i64 fy] 23)
            replace kp := Lib.hid (kp.out.keep hbf)
            replace kt := Lib.hid (kt.out.keep hbf)
            have zf : (Vt.alloc (.cells #[.int .i64 fx, .int .i64 fy] 23)).heap.size = Vt.heap.size + 1 := by simp
            replace HB := Lib.hid (HB.out.trans (hbf.mono HB.out.size))
            have kf := Lib.hid (Lok.new Vt 23 #[.int .i64 fx, .int .i64 fy])
            clear hbf
            generalize Vt.alloc (.cells #[.int .i64 fx, .int .i64 fy] 23) = Vf at *
            clear zf
            clear p0 p1
            have p0 := kp.out.cell (i := 0) rfl
            have p1 := kp.out.cell (i := 1) rfl
            have f0 := kf.out.cell (i := 0) rfl
            have f1 := kf.out.cell (i := 1) rfl
            go_wp2_with fail
            have hbq := below_new1 Vf (.cells #[.int .i64 x, .int .i64 y, .int .i64 fx, .int .i64 fy] 23)
            replace kp := Lib.hid (kp.out.keep hbq)
            replace kt := Lib.hid (kt.out.keep hbq)
            replace kf := Lib.hid (kf.out.keep hbq)
            have zq : (Vf.alloc (.cells #[.int .i64 x, .int .i64 y, .int .i64 fx, .int .i64 fy] 23)).heap.size = Vf.heap.size + 1 := by simp
            replace HB := Lib.hid (HB.out.trans (hbq.mono HB.out.size))
            have kq := Lib.hid (Lok.new Vf 23 #[.int .i64 x, .int .i64 y, .int .i64 fx, .int .i64 fy])
            clear hbq
            generalize Vf.alloc (.cells #[.int .i64 x, .int .i64 y, .int .i64 fx, .int .i64 fy] 23) = Vq at *
            clear zq
            clear p0 p1 f0 f1
            (((with_reducible refine (SQ.out _ _ _ kq.out).mono ?_); rintro e w1 ⟨rfl, hb1⟩); replace HB := Lib.hid (HB.out.trans (hb1.mono HB.out.size)); replace kp := Lib.hid (kp.out.keep hb1); replace kt := Lib.hid (kt.out.keep hb1); replace kf := Lib.hid (kf.out.keep hb1); clear hb1)
            clear kq
            have t0 := kt.out.cell (i := 0) rfl
            have t1 := kt.out.cell (i := 1) rfl
            have t2 := kt.out.cell (i := 2) rfl
            have t3 := kt.out.cell (i := 3) rfl
            have t4 := kt.out.cell (i := 4) rfl
            have t5 := kt.out.cell (i := 5) rfl
            go_wp2_with fail
            clear t0 t1 t2 t3 t4 t5
            (((with_reducible refine (R1.out _).mono ?_); rintro e w2 ⟨rfl, hb2⟩); replace HB := Lib.hid (HB.out.trans (hb2.mono HB.out.size)); replace kp := Lib.hid (kp.out.keep hb2); replace kt := Lib.hid (kt.out.keep hb2); replace kf := Lib.hid (kf.out.keep hb2); clear hb2)
            go_wp2
            go_ret2
            exact ⟨rfl, HB.out⟩
          | true =>
            rw [ha] at R1
            cases hc : cB x y fx fy a1 a2 b1 b2 c1 c2 with
            | false =>
              have CR' := Lib.hid (fun W => CR.out fx fy W)
              rw [hc] at CR'
              show Calls _ _ _ _ fun e' w' => e' = .returned (.tuple #[.bool false, .int .i64 0]) ∧ _
              clear ha hp hq hc CR
              go_enter Try.func14, Try.ntmps14
              go_upto_region 1 with fail
              have hbp := below_new1 w (.cells #[.int .i64 x, .int .i64 y] 23)
              have zp : (w.alloc (.cells #[.int .i64 x, .int .i64 y] 23)).heap.size = w.heap.size + 1 := by simp
              have HB := Lib.hid hbp
              have kp := Lib.hid (Lok.new w 23 #[.int .i64 x, .int .i64 y])
              clear hbp
              generalize w.alloc (.cells #[.int .i64 x, .int .i64 y] 23) = Vp at *
              have hbt := below_new1 Vp (.cells #[.int .i64 a1, .int .i64 a2, .int .i64 b1, .int .i64 b2, .int .i64 c1, .int .i64 c2] 24)
              replace kp := Lib.hid (kp.out.keep hbt)
              have zt : (Vp.alloc (.cells #[.int .i64 a1, .int .i64 a2, .int .i64 b1, .int .i64 b2, .int .i64 c1, .int .i64 c2] 24)).heap.size = Vp.heap.size + 1 := by simp
              replace HB := Lib.hid (HB.out.trans (hbt.mono HB.out.size))
              have kt := Lib.hid (Lok.new Vp 24 #[.int .i64 a1, .int .i64 a2, .int .i64 b1, .int .i64 b2, .int .i64 c1, .int .i64 c2])
              clear hbt
              generalize Vp.alloc (.cells #[.int .i64 a1, .int .i64 a2, .int .i64 b1, .int .i64 b2, .int .i64 c1, .int .i64 c2] 24) = Vt at *
              rw [zp] at kt
              clear zp zt
              have p0 := kp.out.cell (i := 0) rfl
              have p1 := kp.out.cell (i := 1) rfl
              go_upto_region 2 with fail
              have hbf := below_new1 Vt (.cells #[.int .i64 fx, .int .i64 fy] 23)
              replace kp := Lib.hid (kp.out.keep hbf)
              replace kt := Lib.hid (kt.out.keep hbf)
              have zf : (Vt.alloc (.cells #[.int .i64 fx, .int .i64 fy] 23)).heap.size = Vt.heap.size + 1 := by simp
              replace HB := Lib.hid (HB.out.trans (hbf.mono HB.out.size))
              have kf := Lib.hid (Lok.new Vt 23 #[.int .i64 fx, .int .i64 fy])
              clear hbf
              generalize Vt.alloc (.cells #[.int .i64 fx, .int .i64 fy] 23) = Vf at *
              clear zf
              clear p0 p1
              have p0 := kp.out.cell (i := 0) rfl
              have p1 := kp.out.cell (i := 1) rfl
              have f0 := kf.out.cell (i := 0) rfl
              have f1 := kf.out.cell (i := 1) rfl
              go_wp2_with fail
              have hbq := below_new1 Vf (.cells #[.int .i64 x, .int .i64 y, .int .i64 fx, .int .i64 fy] 23)
              replace kp := Lib.hid (kp.out.keep hbq)
              replace kt := Lib.hid (kt.out.keep hbq)
              replace kf := Lib.hid (kf.out.keep hbq)
              have zq : (Vf.alloc (.cells #[.int .i64 x, .int .i64 y, .int .i64 fx, .int .i64 fy] 23)).heap.size = Vf.heap.size + 1 := by simp
              replace HB := Lib.hid (HB.out.trans (hbq.mono HB.out.size))
              have kq := Lib.hid (Lok.new Vf 23 #[.int .i64 x, .int .i64 y, .int .i64 fx, .int .i64 fy])
              clear hbq
              generalize Vf.alloc (.cells #[.int .i64 x, .int .i64 y, .int .i64 fx, .int .i64 fy] 23) = Vq at *
              clear zq
              clear p0 p1 f0 f1
              (((with_reducible refine (SQ.out _ _ _ kq.out).mono ?_); rintro e w1 ⟨rfl, hb1⟩); replace HB := Lib.hid (HB.out.trans (hb1.mono HB.out.size)); replace kp := Lib.hid (kp.out.keep hb1); replace kt := Lib.hid (kt.out.keep hb1); replace kf := Lib.hid (kf.out.keep hb1); clear hb1)
              clear kq
              have t0 := kt.out.cell (i := 0) rfl
              have t1 := kt.out.cell (i := 1) rfl
              have t2 := kt.out.cell (i := 2) rfl
              have t3 := kt.out.cell (i := 3) rfl
              have t4 := kt.out.cell (i := 4) rfl
              have t5 := kt.out.cell (i := 5) rfl
              go_wp2_with fail
              clear t0 t1 t2 t3 t4 t5
              (((with_reducible refine (R1.out _).mono ?_); rintro e w2 ⟨rfl, hb2⟩); replace HB := Lib.hid (HB.out.trans (hb2.mono HB.out.size)); replace kp := Lib.hid (kp.out.keep hb2); replace kt := Lib.hid (kt.out.keep hb2); replace kf := Lib.hid (kf.out.keep hb2); clear hb2)
              have p0 := kp.out.cell (i := 0) rfl
              have p1 := kp.out.cell (i := 1) rfl
              have f0 := kf.out.cell (i := 0) rfl
              have f1 := kf.out.cell (i := 1) rfl
              have t0 := kt.out.cell (i := 0) rfl
              have t1 := kt.out.cell (i := 1) rfl
              have t2 := kt.out.cell (i := 2) rfl
              have t3 := kt.out.cell (i := 3) rfl
              have t4 := kt.out.cell (i := 4) rfl
              have t5 := kt.out.cell (i := 5) rfl
              go_wp2_with fail
              clear p0 p1 f0 f1 t0 t1 t2 t3 t4 t5
              (((with_reducible refine (CR'.out _).mono ?_); rintro e w3 ⟨rfl, hb3⟩); replace HB := Lib.hid (HB.out.trans (hb3.mono HB.out.size)); replace kp := Lib.hid (kp.out.keep hb3); replace kt := Lib.hid (kt.out.keep hb3); replace kf := Lib.hid (kf.out.keep hb3); clear hb3)
              go_wp2
              go_ret2
              exact ⟨rfl, HB.out⟩
            | true =>
              have CR' := Lib.hid (fun W => CR.out fx fy W)
              rw [hc] at CR'
              obtain ⟨hl, hr⟩ := s2_corner hp hq
              have RE := Lib.hid (fun g T W h => reach_4 a1 a2 b1 b2 c1 c2 x y fx y fx fy x fy ha hp hl hq hr g T W h)
              show Calls _ _ _ _ fun e' w' => e' = .returned (.tuple #[.bool (r4 a1 a2 b1 b2 c1 c2 x y fx y fx fy x fy != -1), .int .i64 0]) ∧ _
              generalize r4 a1 a2 b1 b2 c1 c2 x y fx y fx fy x fy = m at *
              clear ha hp hq hc CR hl hr
              go_enter Try.func14, Try.ntmps14
              go_upto_region 1 with fail
              have hbp := below_new1 w (.cells #[.int .i64 x, .int .i64 y] 23)
              have zp : (w.alloc (.cells #[.int .i64 x, .int .i64 y] 23)).heap.size = w.heap.size + 1 := by simp
              have HB := Lib.hid hbp
              have kp := Lib.hid (Lok.new w 23 #[.int .i64 x, .int .i64 y])
              clear hbp
              generalize w.alloc (.cells #[.int .i64 x, .int .i64 y] 23) = Vp at *
              have hbt := below_new1 Vp (.cells #[.int .i64 a1, .int .i64 a2, .int .i64 b1, .int .i64 b2, .int .i64 c1, .int .i64 c2] 24)
              replace kp := Lib.hid (kp.out.keep hbt)
              have zt : (Vp.alloc (.cells #[.int .i64 a1, .int .i64 a2, .int .i64 b1, .int .i64 b2, .int .i64 c1, .int .i64 c2] 24)).heap.size = Vp.heap.size + 1 := by simp
              replace HB := Lib.hid (HB.out.trans (hbt.mono HB.out.size))
              have kt := Lib.hid (Lok.new Vp 24 #[.int .i64 a1, .int .i64 a2, .int .i64 b1, .int .i64 b2, .int .i64 c1, .int .i64 c2])
              clear hbt
              generalize Vp.alloc (.cells #[.int .i64 a1, .int .i64 a2, .int .i64 b1, .int .i64 b2, .int .i64 c1, .int .i64 c2] 24) = Vt at *
              rw [zp] at kt
              clear zp zt
              have p0 := kp.out.cell (i := 0) rfl
              have p1 := kp.out.cell (i := 1) rfl
              go_upto_region 2 with fail
              have hbf := below_new1 Vt (.cells #[.int .i64 fx, .int .i64 fy] 23)
              replace kp := Lib.hid (kp.out.keep hbf)
              replace kt := Lib.hid (kt.out.keep hbf)
              have zf : (Vt.alloc (.cells #[.int .i64 fx, .int .i64 fy] 23)).heap.size = Vt.heap.size + 1 := by simp
              replace HB := Lib.hid (HB.out.trans (hbf.mono HB.out.size))
              have kf := Lib.hid (Lok.new Vt 23 #[.int .i64 fx, .int .i64 fy])
              clear hbf
              generalize Vt.alloc (.cells #[.int .i64 fx, .int .i64 fy] 23) = Vf at *
              clear zf
              clear p0 p1
              have p0 := kp.out.cell (i := 0) rfl
              have p1 := kp.out.cell (i := 1) rfl
              have f0 := kf.out.cell (i := 0) rfl
              have f1 := kf.out.cell (i := 1) rfl
              go_wp2_with fail
              have hbq := below_new1 Vf (.cells #[.int .i64 x, .int .i64 y, .int .i64 fx, .int .i64 fy] 23)
              replace kp := Lib.hid (kp.out.keep hbq)
              replace kt := Lib.hid (kt.out.keep hbq)
              replace kf := Lib.hid (kf.out.keep hbq)
              have zq : (Vf.alloc (.cells #[.int .i64 x, .int .i64 y, .int .i64 fx, .int .i64 fy] 23)).heap.size = Vf.heap.size + 1 := by simp
              replace HB := Lib.hid (HB.out.trans (hbq.mono HB.out.size))
              have kq := Lib.hid (Lok.new Vf 23 #[.int .i64 x, .int .i64 y, .int .i64 fx, .int .i64 fy])
              clear hbq
              generalize Vf.alloc (.cells #[.int .i64 x, .int .i64 y, .int .i64 fx, .int .i64 fy] 23) = Vq at *
              clear zq
              clear p0 p1 f0 f1
              (((with_reducible refine (SQ.out _ _ _ kq.out).mono ?_); rintro e w1 ⟨rfl, hb1⟩); replace HB := Lib.hid (HB.out.trans (hb1.mono HB.out.size)); replace kp := Lib.hid (kp.out.keep hb1); replace kt := Lib.hid (kt.out.keep hb1); replace kf := Lib.hid (kf.out.keep hb1); clear hb1)
              clear kq
              have t0 := kt.out.cell (i := 0) rfl
              have t1 := kt.out.cell (i := 1) rfl
              have t2 := kt.out.cell (i := 2) rfl
              have t3 := kt.out.cell (i := 3) rfl
              have t4 := kt.out.cell (i := 4) rfl
              have t5 := kt.out.cell (i := 5) rfl
              go_wp2_with fail
              clear t0 t1 t2 t3 t4 t5
              (((with_reducible refine (R1.out _).mono ?_); rintro e w2 ⟨rfl, hb2⟩); replace HB := Lib.hid (HB.out.trans (hb2.mono HB.out.size)); replace kp := Lib.hid (kp.out.keep hb2); replace kt := Lib.hid (kt.out.keep hb2); replace kf := Lib.hid (kf.out.keep hb2); clear hb2)
              have p0 := kp.out.cell (i := 0) rfl
              have p1 := kp.out.cell (i := 1) rfl
              have f0 := kf.out.cell (i := 0) rfl
              have f1 := kf.out.cell (i := 1) rfl
              have t0 := kt.out.cell (i := 0) rfl
              have t1 := kt.out.cell (i := 1) rfl
              have t2 := kt.out.cell (i := 2) rfl
              have t3 := kt.out.cell (i := 3) rfl
              have t4 := kt.out.cell (i := 4) rfl
              have t5 := kt.out.cell (i := 5) rfl
              go_wp2_with fail
              clear p0 p1 f0 f1 t0 t1 t2 t3 t4 t5
              (((with_reducible refine (CR'.out _).mono ?_); rintro e w3 ⟨rfl, hb3⟩); replace HB := Lib.hid (HB.out.trans (hb3.mono HB.out.size)); replace kp := Lib.hid (kp.out.keep hb3); replace kt := Lib.hid (kt.out.keep hb3); replace kf := Lib.hid (kf.out.keep hb3); clear hb3)
              have p0 := kp.out.cell (i := 0) rfl
              have p1 := kp.out.cell (i := 1) rfl
              have f0 := kf.out.cell (i := 0) rfl
              have f1 := kf.out.cell (i := 1) rfl
              have t0 := kt.out.cell (i := 0) rfl
              have t1 := kt.out.cell (i := 1) rfl
              have t2 := kt.out.cell (i := 2) rfl
              have t3 := kt.out.cell (i := 3) rfl
              have t4 := kt.out.cell (i := 4) rfl
              have t5 := kt.out.cell (i := 5) rfl
              go_wp2_with fail
              have hbo := below_new1 w3 (.cells #[.int .i64 x, .int .i64 y, .int .i64 fx, .int .i64 y, .int .i64 fx, .int .i64 fy, .int .i64 x, .int .i64 fy] 23)
              replace kp := Lib.hid (kp.out.keep hbo)
              replace kt := Lib.hid (kt.out.keep hbo)
              replace kf := Lib.hid (kf.out.keep hbo)
              have zo : (w3.alloc (.cells #[.int .i64 x, .int .i64 y, .int .i64 fx, .int .i64 y, .int .i64 fx, .int .i64 fy, .int .i64 x, .int .i64 fy] 23)).heap.size = w3.heap.size + 1 := by simp
              replace HB := Lib.hid (HB.out.trans (hbo.mono HB.out.size))
              have ko := Lib.hid (Lok.new w3 23 #[.int .i64 x, .int .i64 y, .int .i64 fx, .int .i64 y, .int .i64 fx, .int .i64 fy, .int .i64 x, .int .i64 fy])
              clear hbo
              generalize w3.alloc (.cells #[.int .i64 x, .int .i64 y, .int .i64 fx, .int .i64 y, .int .i64 fx, .int .i64 fy, .int .i64 x, .int .i64 fy] 23) = Vo at *
              clear zo
              clear p0 p1 f0 f1 t0 t1 t2 t3 t4 t5
              (((with_reducible refine (RE.out _ _ _ ko.out).mono ?_); rintro e w4 ⟨rfl, hb4⟩); replace HB := Lib.hid (HB.out.trans (hb4.mono HB.out.size)); clear hb4)
              go_wp2
              go_ret2
              exact ⟨rfl, HB.out⟩
    · have d1 : decide (s < 1) = false := decide_eq_false (by omega)
      have d2 : decide (4096 < s) = true := decide_eq_true (by omega)
      obtain ⟨e1, e2⟩ := sq_off (rT a1 a2 b1 b2 c1 c2) (show sqS x y s = false from by unfold sqS; rw [decide_eq_false h2]; simp) a1 a2 b1 b2 c1 c2
      rw [e1, e2]
      clear e1 e2 R1 CR
      go_enter Try.func14, Try.ntmps14
      go_upto_region 1 with fail
      have hbp := below_new1 w (.cells #[.int .i64 x, .int .i64 y] 23)
      have zp : (w.alloc (.cells #[.int .i64 x, .int .i64 y] 23)).heap.size = w.heap.size + 1 := by simp
      have HB := Lib.hid hbp
      have kp := Lib.hid (Lok.new w 23 #[.int .i64 x, .int .i64 y])
      clear hbp
      generalize w.alloc (.cells #[.int .i64 x, .int .i64 y] 23) = Vp at *
      have hbt := below_new1 Vp (.cells #[.int .i64 a1, .int .i64 a2, .int .i64 b1, .int .i64 b2, .int .i64 c1, .int .i64 c2] 24)
      replace kp := Lib.hid (kp.out.keep hbt)
      have zt : (Vp.alloc (.cells #[.int .i64 a1, .int .i64 a2, .int .i64 b1, .int .i64 b2, .int .i64 c1, .int .i64 c2] 24)).heap.size = Vp.heap.size + 1 := by simp
      replace HB := Lib.hid (HB.out.trans (hbt.mono HB.out.size))
      have kt := Lib.hid (Lok.new Vp 24 #[.int .i64 a1, .int .i64 a2, .int .i64 b1, .int .i64 b2, .int .i64 c1, .int .i64 c2])
      clear hbt
      generalize Vp.alloc (.cells #[.int .i64 a1, .int .i64 a2, .int .i64 b1, .int .i64 b2, .int .i64 c1, .int .i64 c2] 24) = Vt at *
      rw [zp] at kt
      clear zp zt
      have p0 := kp.out.cell (i := 0) rfl
      have p1 := kp.out.cell (i := 1) rfl
      go_upto_region 2 with fail
      have hbf := below_new1 Vt (.cells #[.int .i64 fx, .int .i64 fy] 23)
      replace kp := Lib.hid (kp.out.keep hbf)
      replace kt := Lib.hid (kt.out.keep hbf)
      have zf : (Vt.alloc (.cells #[.int .i64 fx, .int .i64 fy] 23)).heap.size = Vt.heap.size + 1 := by simp
      replace HB := Lib.hid (HB.out.trans (hbf.mono HB.out.size))
      have kf := Lib.hid (Lok.new Vt 23 #[.int .i64 fx, .int .i64 fy])
      clear hbf
      generalize Vt.alloc (.cells #[.int .i64 fx, .int .i64 fy] 23) = Vf at *
      clear zf
      clear p0 p1
      have p0 := kp.out.cell (i := 0) rfl
      have p1 := kp.out.cell (i := 1) rfl
      have f0 := kf.out.cell (i := 0) rfl
      have f1 := kf.out.cell (i := 1) rfl
      go_wp2
      go_ret2
      exact ⟨rfl, HB.out⟩
  · have d1 : decide (s < 1) = true := decide_eq_true (by omega)
    obtain ⟨e1, e2⟩ := sq_off (rT a1 a2 b1 b2 c1 c2) (show sqS x y s = false from by unfold sqS; rw [decide_eq_false h1]; simp) a1 a2 b1 b2 c1 c2
    rw [e1, e2]
    clear e1 e2 R1 CR
    go_enter Try.func14, Try.ntmps14
    go_upto_region 1 with fail
    have hbp := below_new1 w (.cells #[.int .i64 x, .int .i64 y] 23)
    have zp : (w.alloc (.cells #[.int .i64 x, .int .i64 y] 23)).heap.size = w.heap.size + 1 := by simp
    have HB := Lib.hid hbp
    have kp := Lib.hid (Lok.new w 23 #[.int .i64 x, .int .i64 y])
    clear hbp
    generalize w.alloc (.cells #[.int .i64 x, .int .i64 y] 23) = Vp at *
    have hbt := below_new1 Vp (.cells #[.int .i64 a1, .int .i64 a2, .int .i64 b1, .int .i64 b2, .int .i64 c1, .int .i64 c2] 24)
    replace kp := Lib.hid (kp.out.keep hbt)
    have zt : (Vp.alloc (.cells #[.int .i64 a1, .int .i64 a2, .int .i64 b1, .int .i64 b2, .int .i64 c1, .int .i64 c2] 24)).heap.size = Vp.heap.size + 1 := by simp
    replace HB := Lib.hid (HB.out.trans (hbt.mono HB.out.size))
    have kt := Lib.hid (Lok.new Vp 24 #[.int .i64 a1, .int .i64 a2, .int .i64 b1, .int .i64 b2, .int .i64 c1, .int .i64 c2])
    clear hbt
    generalize Vp.alloc (.cells #[.int .i64 a1, .int .i64 a2, .int .i64 b1, .int .i64 b2, .int .i64 c1, .int .i64 c2] 24) = Vt at *
    rw [zp] at kt
    clear zp zt
    have p0 := kp.out.cell (i := 0) rfl
    have p1 := kp.out.cell (i := 1) rfl
    go_upto_region 2 with fail
    have hbf := below_new1 Vt (.cells #[.int .i64 fx, .int .i64 fy] 23)
    replace kp := Lib.hid (kp.out.keep hbf)
    replace kt := Lib.hid (kt.out.keep hbf)
    have zf : (Vt.alloc (.cells #[.int .i64 fx, .int .i64 fy] 23)).heap.size = Vt.heap.size + 1 := by simp
    replace HB := Lib.hid (HB.out.trans (hbf.mono HB.out.size))
    have kf := Lib.hid (Lok.new Vt 23 #[.int .i64 fx, .int .i64 fy])
    clear hbf
    generalize Vt.alloc (.cells #[.int .i64 fx, .int .i64 fy] 23) = Vf at *
    clear zf
    clear p0 p1
    have p0 := kp.out.cell (i := 0) rfl
    have p1 := kp.out.cell (i := 1) rfl
    have f0 := kf.out.cell (i := 0) rfl
    have f1 := kf.out.cell (i := 1) rfl
    go_wp2
    go_ret2
    exact ⟨rfl, HB.out⟩
end Go.Proofs.Ythdcldbocakbpaa
