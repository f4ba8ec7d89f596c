/-
  Contracts of package near and of its reference: Weights. (gen/NrI.py)
-/
import Derived.Test.YtllamakemgogaaaGaF
import Derived.Test.YtllamakemgogaaaNrA
import Derived.Test.YtllamakemgogaaaGaG
namespace Go.Proofs.Ytllamakemgogaaa
open Go.RowKit

/-- A value where the point is small and the triangle right. -/
def gV (s t : Bool) (v : Int) : Int := if s = true then (if t = true then v else 0) else 0
theorem gV_yes (v : Int) : gV true true v = v := rfl
theorem gV_arg (v : Int) : gV true false v = 0 := rfl
theorem gV_no (t : Bool) (v : Int) : gV false t v = 0 := rfl
theorem iE_yes : iE true true = 0 := rfl
theorem iE_arg : iE true false = 1 := rfl
theorem iE_no (t : Bool) : iE false t = 5 := rfl
def wA (x y a1 a2 b1 b2 c1 c2 : Int) : Int := wg (ar a1 a2 b1 b2 c1 c2) (ar x y b1 b2 c1 c2)
def wB (x y a1 a2 b1 b2 c1 c2 : Int) : Int := wg (ar a1 a2 b1 b2 c1 c2) (ar x y c1 c2 a1 a2)
def wC (x y a1 a2 b1 b2 c1 c2 : Int) : Int := wg (ar a1 a2 b1 b2 c1 c2) (ar x y a1 a2 b1 b2)
def wW (a1 a2 b1 b2 c1 c2 : Int) : Int := wg (ar a1 a2 b1 b2 c1 c2) (ar a1 a2 b1 b2 c1 c2)
set_option maxRecDepth 100000 in
set_option maxHeartbeats 8000000 in
theorem weights_any (x y a1 a2 b1 b2 c1 c2 : Int) (w : World) :
    Calls Try.prog 12 #[.agg #[.int .i64 x, .int .i64 y], .agg #[.int .i64 a1, .int .i64 a2, .int .i64 b1, .int .i64 b2, .int .i64 c1, .int .i64 c2]] w fun e' w' => e' = .returned (.tuple #[.agg #[.int .i64 (gV (s2 x y) (rT a1 a2 b1 b2 c1 c2) (wA x y a1 a2 b1 b2 c1 c2)), .int .i64 (gV (s2 x y) (rT a1 a2 b1 b2 c1 c2) (wB x y a1 a2 b1 b2 c1 c2)), .int .i64 (gV (s2 x y) (rT a1 a2 b1 b2 c1 c2) (wC x y a1 a2 b1 b2 c1 c2))], .int .i64 (gV (s2 x y) (rT a1 a2 b1 b2 c1 c2) (wW a1 a2 b1 b2 c1 c2)), .int .i64 (iE (s2 x y) (rT a1 a2 b1 b2 c1 c2))]) ∧ Below w.heap.size w w' := by
  have HB := Lib.hid (Below.refl w.heap.size w)
  have S := Lib.hid (fun g T W h => small2_1 x y _ rfl g T W h)
  have R1 := Lib.hid (fun W => right_any a1 a2 b1 b2 c1 c2 W)
  cases hs : s2 x y with
  | false =>
    rw [hs] at S
    simp only [gV_no, iE_no]
    clear hs R1
    go_enter Try.func12, Try.ntmps12
    go_upto_region 1 with fail
    have hbp := below_new1 w (.cells #[.int .i64 x, .int .i64 y] 23)
    have zp : (w.alloc (.cells #[.int .i64 x, .int .i64 y] 23)).heap.size = w.heap.size + 1 := by simp
    have HB := Lib.hid hbp
    have kp := Lib.hid (Lok.new w 23 #[.int .i64 x, .int .i64 y])
    clear hbp
    generalize w.alloc (.cells #[.int .i64 x, .int .i64 y] 23) = Vp at *
    have hbt := below_new1 Vp (.cells #[.int .i64 a1, .int .i64 a2, .int .i64 b1, .int .i64 b2, .int .i64 c1, .int .i64 c2] 24)
    replace kp := Lib.hid (kp.out.keep hbt)
    have zt : (Vp.alloc (.cells #[.int .i64 a1, .int .i64 a2, .int .i64 b1, .int .i64 b2, .int .i64 c1, .int .i64 c2] 24)).heap.size = Vp.heap.size + 1 := by simp
    replace HB := Lib.hid (HB.out.trans (hbt.mono HB.out.size))
    have kt := Lib.hid (Lok.new Vp 24 #[.int .i64 a1, .int .i64 a2, .int .i64 b1, .int .i64 b2, .int .i64 c1, .int .i64 c2])
    clear hbt
    generalize Vp.alloc (.cells #[.int .i64 a1, .int .i64 a2, .int .i64 b1, .int .i64 b2, .int .i64 c1, .int .i64 c2] 24) = Vt at *
    rw [zp] at kt zt
    have hbr := below_new1 Vt (.cells #[.int .i64 0, .int .i64 0, .int .i64 0] 35)
    replace kp := Lib.hid (kp.out.keep hbr)
    replace kt := Lib.hid (kt.out.keep hbr)
    have zr : (Vt.alloc (.cells #[.int .i64 0, .int .i64 0, .int .i64 0] 35)).heap.size = Vt.heap.size + 1 := by simp
    replace HB := Lib.hid (HB.out.trans (hbr.mono HB.out.size))
    have kr := Lib.hid (Lok.new Vt 35 #[.int .i64 0, .int .i64 0, .int .i64 0])
    clear hbr
    generalize Vt.alloc (.cells #[.int .i64 0, .int .i64 0, .int .i64 0] 35) = Vr at *
    rw [zt] at kr
    clear zp zt zr
    have p0 := kp.out.cell (i := 0) rfl
    have p1 := kp.out.cell (i := 1) rfl
    go_wp2_with fail
    clear p0 p1
    have hbq := below_new1 Vr (.cells #[.int .i64 x, .int .i64 y] 23)
    replace kp := Lib.hid (kp.out.keep hbq)
    replace kt := Lib.hid (kt.out.keep hbq)
    replace kr := Lib.hid (kr.out.keep hbq)
    have zq : (Vr.alloc (.cells #[.int .i64 x, .int .i64 y] 23)).heap.size = Vr.heap.size + 1 := by simp
    replace HB := Lib.hid (HB.out.trans (hbq.mono HB.out.size))
    have kq := Lib.hid (Lok.new Vr 23 #[.int .i64 x, .int .i64 y])
    clear hbq
    generalize Vr.alloc (.cells #[.int .i64 x, .int .i64 y] 23) = Vq at *
    clear zq
    (((with_reducible refine (S.out _ _ _ kq.out).mono ?_); rintro e w1 ⟨rfl, hb1⟩); replace HB := Lib.hid (HB.out.trans (hb1.mono HB.out.size)); replace kp := Lib.hid (kp.out.keep hb1); replace kt := Lib.hid (kt.out.keep hb1); replace kr := Lib.hid (kr.out.keep hb1); clear hb1)
    clear kq
    have r0 := kr.out.cell (i := 0) rfl
    have r1 := kr.out.cell (i := 1) rfl
    have r2 := kr.out.cell (i := 2) rfl
    have fr0 := kr.out.frozen 0
    have fr1 := kr.out.frozen 1
    have fr2 := kr.out.frozen 2
    go_wp2_with fail
    exact bodyPost_ret (v := .tuple #[.agg #[.int .i64 0, .int .i64 0, .int .i64 0], .int .i64 0, .int .i64 5]) (by simp [results, Try.results12, go_sem, r0, r1, r2]) rfl ⟨rfl, ((HB.out.setCell (by simp <;> omega) _).setCell (by simp <;> omega) _).setCell (by simp <;> omega) _⟩
  | true =>
    rw [hs] at S
    cases ha : rT a1 a2 b1 b2 c1 c2 with
    | false =>
      rw [ha] at R1
      simp only [gV_arg, iE_arg]
      clear hs ha
      go_enter Try.func12, Try.ntmps12
      go_upto_region 1 with fail
      have hbp := below_new1 w (.cells #[.int .i64 x, .int .i64 y] 23)
      have zp : (w.alloc (.cells #[.int .i64 x, .int .i64 y] 23)).heap.size = w.heap.size + 1 := by simp
      have HB := Lib.hid hbp
      have kp := Lib.hid (Lok.new w 23 #[.int .i64 x, .int .i64 y])
      clear hbp
      generalize w.alloc (.cells #[.int .i64 x, .int .i64 y] 23) = Vp at *
      have hbt := below_new1 Vp (.cells #[.int .i64 a1, .int .i64 a2, .int .i64 b1, .int .i64 b2, .int .i64 c1, .int .i64 c2] 24)
      replace kp := Lib.hid (kp.out.keep hbt)
      have zt : (Vp.alloc (.cells #[.int .i64 a1, .int .i64 a2, .int .i64 b1, .int .i64 b2, .int .i64 c1, .int .i64 c2] 24)).heap.size = Vp.heap.size + 1 := by simp
      replace HB := Lib.hid (HB.out.trans (hbt.mono HB.out.size))
      have kt := Lib.hid (Lok.new Vp 24 #[.int .i64 a1, .int .i64 a2, .int .i64 b1, .int .i64 b2, .int .i64 c1, .int .i64 c2])
      clear hbt
      generalize Vp.alloc (.cells #[.int .i64 a1, .int .i64 a2, .int .i64 b1, .int .i64 b2, .int .i64 c1, .int .i64 c2] 24) = Vt at *
      rw [zp] at kt zt
      have hbr := below_new1 Vt (.cells #[.int .i64 0, .int .i64 0, .int .i64 0] 35)
      replace kp := Lib.hid (kp.out.keep hbr)
      replace kt := Lib.hid (kt.out.keep hbr)
      have zr : (Vt.alloc (.cells #[.int .i64 0, .int .i64 0, .int .i64 0] 35)).heap.size = Vt.heap.size + 1 := by simp
      replace HB := Lib.hid (HB.out.trans (hbr.mono HB.out.size))
      have kr := Lib.hid (Lok.new Vt 35 #[.int .i64 0, .int .i64 0, .int .i64 0])
      clear hbr
      generalize Vt.alloc (.cells #[.int .i64 0, .int .i64 0, .int .i64 0] 35) = Vr at *
      rw [zt] at kr
      clear zp zt zr
      have p0 := kp.out.cell (i := 0) rfl
      have p1 := kp.out.cell (i := 1) rfl
      go_wp2_with fail
      clear p0 p1
      have hbq := below_new1 Vr (.cells #[.int .i64 x, .int .i64 y] 23)
      replace kp := Lib.hid (kp.out.keep hbq)
      replace kt := Lib.hid (kt.out.keep hbq)
      replace kr := Lib.hid (kr.out.keep hbq)
      have zq : (Vr.alloc (.cells #[.int .i64 x, .int .i64 y] 23)).heap.size = Vr.heap.size + 1 := by simp
      replace HB := Lib.hid (HB.out.trans (hbq.mono HB.out.size))
      have kq := Lib.hid (Lok.new Vr 23 #[.int .i64 x, .int .i64 y])
      clear hbq
      generalize Vr.alloc (.cells #[.int .i64 x, .int .i64 y] 23) = Vq at *
      clear zq
      (((with_reducible refine (S.out _ _ _ kq.out).mono ?_); rintro e w1 ⟨rfl, hb1⟩); replace HB := Lib.hid (HB.out.trans (hb1.mono HB.out.size)); replace kp := Lib.hid (kp.out.keep hb1); replace kt := Lib.hid (kt.out.keep hb1); replace kr := Lib.hid (kr.out.keep hb1); clear hb1)
      clear kq
      have t0 := kt.out.cell (i := 0) rfl
      have t1 := kt.out.cell (i := 1) rfl
      have t2 := kt.out.cell (i := 2) rfl
      have t3 := kt.out.cell (i := 3) rfl
      have t4 := kt.out.cell (i := 4) rfl
      have t5 := kt.out.cell (i := 5) rfl
      go_wp2_with fail
      clear t0 t1 t2 t3 t4 t5
      (((with_reducible refine (R1.out _).mono ?_); rintro e w2 ⟨rfl, hb2⟩); replace HB := Lib.hid (HB.out.trans (hb2.mono HB.out.size)); replace kp := Lib.hid (kp.out.keep hb2); replace kt := Lib.hid (kt.out.keep hb2); replace kr := Lib.hid (kr.out.keep hb2); clear hb2)
      have r0 := kr.out.cell (i := 0) rfl
      have r1 := kr.out.cell (i := 1) rfl
      have r2 := kr.out.cell (i := 2) rfl
      have fr0 := kr.out.frozen 0
      have fr1 := kr.out.frozen 1
      have fr2 := kr.out.frozen 2
      go_wp2_with fail
      exact bodyPost_ret (v := .tuple #[.agg #[.int .i64 0, .int .i64 0, .int .i64 0], .int .i64 0, .int .i64 1]) (by simp [results, Try.results12, go_sem, r0, r1, r2]) rfl ⟨rfl, ((HB.out.setCell (by simp <;> omega) _).setCell (by simp <;> omega) _).setCell (by simp <;> omega) _⟩
    | true =>
      rw [ha] at R1
      simp only [gV_yes, iE_yes]
      obtain ⟨h1, h2, h3⟩ := small_of3 (rT_small ha)
      have SD := Lib.hid (fun W => sideOf_any a1 a2 b1 b2 c1 c2 true (by rw [h1, h2, h3]; rfl) W)
      have AR := Lib.hid (fun W => area_any a1 a2 b1 b2 c1 c2 true (by rw [h1, h2, h3]; rfl) W)
      have A0 := Lib.hid (fun W => area_any x y b1 b2 c1 c2 true (by rw [hs, h2, h3]; rfl) W)
      have A1 := Lib.hid (fun W => area_any x y c1 c2 a1 a2 true (by rw [hs, h3, h1]; rfl) W)
      have A2 := Lib.hid (fun W => area_any x y a1 a2 b1 b2 true (by rw [hs, h1, h2]; rfl) W)
      simp only [vF_yes, show rE true = 0 from rfl] at SD AR A0 A1 A2
      have f0 := wg_bd (A := ar a1 a2 b1 b2 c1 c2) (ar_s2 hs h2 h3)
      have f1 := wg_bd (A := ar a1 a2 b1 b2 c1 c2) (ar_s2 hs h3 h1)
      have f2 := wg_bd (A := ar a1 a2 b1 b2 c1 c2) (ar_s2 hs h1 h2)
      have f3 := wg_bd (A := ar a1 a2 b1 b2 c1 c2) (ar_s2 h1 h2 h3)
      unfold wA wB wC wW
      unfold wg at *
      generalize ordI (ar a1 a2 b1 b2 c1 c2) 0 = o at *
      generalize ar a1 a2 b1 b2 c1 c2 = n at *
      generalize ar x y b1 b2 c1 c2 = n0 at *
      generalize ar x y c1 c2 a1 a2 = n1 at *
      generalize ar x y a1 a2 b1 b2 = n2 at *
      obtain ⟨v0, hv0⟩ : ∃ v, n0 * o = v := ⟨_, rfl⟩
      have e0 : IntKind.i64.wrap (n0 * o) = v0 := by rw [← hv0]; exact IntWalk.i64_in _ (by omega)
      rw [hv0]
      obtain ⟨v1, hv1⟩ : ∃ v, n1 * o = v := ⟨_, rfl⟩
      have e1 : IntKind.i64.wrap (n1 * o) = v1 := by rw [← hv1]; exact IntWalk.i64_in _ (by omega)
      rw [hv1]
      obtain ⟨v2, hv2⟩ : ∃ v, n2 * o = v := ⟨_, rfl⟩
      have e2 : IntKind.i64.wrap (n2 * o) = v2 := by rw [← hv2]; exact IntWalk.i64_in _ (by omega)
      rw [hv2]
      have e3 : IntKind.i64.wrap (n * o) = n * o := IntWalk.i64_in _ (by omega)
      clear hs ha h1 h2 h3 f0 f1 f2 f3 hv0 hv1 hv2
      go_enter Try.func12, Try.ntmps12
      go_upto_region 1 with fail
      have hbp := below_new1 w (.cells #[.int .i64 x, .int .i64 y] 23)
      have zp : (w.alloc (.cells #[.int .i64 x, .int .i64 y] 23)).heap.size = w.heap.size + 1 := by simp
      have HB := Lib.hid hbp
      have kp := Lib.hid (Lok.new w 23 #[.int .i64 x, .int .i64 y])
      clear hbp
      generalize w.alloc (.cells #[.int .i64 x, .int .i64 y] 23) = Vp at *
      have hbt := below_new1 Vp (.cells #[.int .i64 a1, .int .i64 a2, .int .i64 b1, .int .i64 b2, .int .i64 c1, .int .i64 c2] 24)
      replace kp := Lib.hid (kp.out.keep hbt)
      have zt : (Vp.alloc (.cells #[.int .i64 a1, .int .i64 a2, .int .i64 b1, .int .i64 b2, .int .i64 c1, .int .i64 c2] 24)).heap.size = Vp.heap.size + 1 := by simp
      replace HB := Lib.hid (HB.out.trans (hbt.mono HB.out.size))
      have kt := Lib.hid (Lok.new Vp 24 #[.int .i64 a1, .int .i64 a2, .int .i64 b1, .int .i64 b2, .int .i64 c1, .int .i64 c2])
      clear hbt
      generalize Vp.alloc (.cells #[.int .i64 a1, .int .i64 a2, .int .i64 b1, .int .i64 b2, .int .i64 c1, .int .i64 c2] 24) = Vt at *
      rw [zp] at kt zt
      have hbr := below_new1 Vt (.cells #[.int .i64 0, .int .i64 0, .int .i64 0] 35)
      replace kp := Lib.hid (kp.out.keep hbr)
      replace kt := Lib.hid (kt.out.keep hbr)
      have zr : (Vt.alloc (.cells #[.int .i64 0, .int .i64 0, .int .i64 0] 35)).heap.size = Vt.heap.size + 1 := by simp
      replace HB := Lib.hid (HB.out.trans (hbr.mono HB.out.size))
      have kr := Lib.hid (Lok.new Vt 35 #[.int .i64 0, .int .i64 0, .int .i64 0])
      clear hbr
      generalize Vt.alloc (.cells #[.int .i64 0, .int .i64 0, .int .i64 0] 35) = Vr at *
      rw [zt] at kr
      clear zp zt zr
      have p0 := kp.out.cell (i := 0) rfl
      have p1 := kp.out.cell (i := 1) rfl
      go_wp2_with fail
      clear p0 p1
      have hbq := below_new1 Vr (.cells #[.int .i64 x, .int .i64 y] 23)
      replace kp := Lib.hid (kp.out.keep hbq)
      replace kt := Lib.hid (kt.out.keep hbq)
      replace kr := Lib.hid (kr.out.keep hbq)
      have zq : (Vr.alloc (.cells #[.int .i64 x, .int .i64 y] 23)).heap.size = Vr.heap.size + 1 := by simp
      replace HB := Lib.hid (HB.out.trans (hbq.mono HB.out.size))
      have kq := Lib.hid (Lok.new Vr 23 #[.int .i64 x, .int .i64 y])
      clear hbq
      generalize Vr.alloc (.cells #[.int .i64 x, .int .i64 y] 23) = Vq at *
      clear zq
      (((with_reducible refine (S.out _ _ _ kq.out).mono ?_); rintro e w1 ⟨rfl, hb1⟩); replace HB := Lib.hid (HB.out.trans (hb1.mono HB.out.size)); replace kp := Lib.hid (kp.out.keep hb1); replace kt := Lib.hid (kt.out.keep hb1); replace kr := Lib.hid (kr.out.keep hb1); clear hb1)
      clear kq
      have t0 := kt.out.cell (i := 0) rfl
      have t1 := kt.out.cell (i := 1) rfl
      have t2 := kt.out.cell (i := 2) rfl
      have t3 := kt.out.cell (i := 3) rfl
      have t4 := kt.out.cell (i := 4) rfl
      have t5 := kt.out.cell (i := 5) rfl
      go_wp2_with fail
      clear t0 t1 t2 t3 t4 t5
      (((with_reducible refine (R1.out _).mono ?_); rintro e w2 ⟨rfl, hb2⟩); replace HB := Lib.hid (HB.out.trans (hb2.mono HB.out.size)); replace kp := Lib.hid (kp.out.keep hb2); replace kt := Lib.hid (kt.out.keep hb2); replace kr := Lib.hid (kr.out.keep hb2); clear hb2)
      have t0 := kt.out.cell (i := 0) rfl
      have t1 := kt.out.cell (i := 1) rfl
      have t2 := kt.out.cell (i := 2) rfl
      have t3 := kt.out.cell (i := 3) rfl
      have t4 := kt.out.cell (i := 4) rfl
      have t5 := kt.out.cell (i := 5) rfl
      go_wp2_with fail
      clear t0 t1 t2 t3 t4 t5
      (((with_reducible refine (SD.out _).mono ?_); rintro e w3 ⟨rfl, hb3⟩); replace HB := Lib.hid (HB.out.trans (hb3.mono HB.out.size)); replace kp := Lib.hid (kp.out.keep hb3); replace kt := Lib.hid (kt.out.keep hb3); replace kr := Lib.hid (kr.out.keep hb3); clear hb3)
      have t0 := kt.out.cell (i := 0) rfl
      have t1 := kt.out.cell (i := 1) rfl
      have t2 := kt.out.cell (i := 2) rfl
      have t3 := kt.out.cell (i := 3) rfl
      have t4 := kt.out.cell (i := 4) rfl
      have t5 := kt.out.cell (i := 5) rfl
      go_wp2_with fail
      clear t0 t1 t2 t3 t4 t5
      (((with_reducible refine (AR.out _).mono ?_); rintro e w4 ⟨rfl, hb4⟩); replace HB := Lib.hid (HB.out.trans (hb4.mono HB.out.size)); replace kp := Lib.hid (kp.out.keep hb4); replace kt := Lib.hid (kt.out.keep hb4); replace kr := Lib.hid (kr.out.keep hb4); clear hb4)
      go_upto_region 8 with fail
      have hlt := kr.out.lt
      have hbm := below_new1 w4 (.cells #[.int .i64 0, .int .i64 0, .int .i64 0] 35)
      replace kp := Lib.hid (kp.out.keep hbm)
      replace kt := Lib.hid (kt.out.keep hbm)
      replace kr := Lib.hid (kr.out.keep hbm)
      have zm : (w4.alloc (.cells #[.int .i64 0, .int .i64 0, .int .i64 0] 35)).heap.size = w4.heap.size + 1 := by simp
      replace HB := Lib.hid (HB.out.trans (hbm.mono HB.out.size))
      have km := Lib.hid (Lok.new w4 35 #[.int .i64 0, .int .i64 0, .int .i64 0])
      clear hbm
      generalize w4.alloc (.cells #[.int .i64 0, .int .i64 0, .int .i64 0] 35) = Vm at *
      clear zm
      generalize w4.heap.size = gm at *
      go_wp2_with fail
      have bs := HB.out.size
      have H0 := HB
      have km0 := km
      clear km HB
      go_loopw [44] (fun x wr => ∃ (j : Nat) (U V N : Int), x = .int .i64 j ∧ ((j = 0 ∧ U = 0 ∧ V = 0 ∧ N = 0) ∨ (j = 1 ∧ U = v0 ∧ V = 0 ∧ N = 0) ∨ (j = 2 ∧ U = v0 ∧ V = v1 ∧ N = 0) ∨ (j = 3 ∧ U = v0 ∧ V = v1 ∧ N = v2)) ∧ Below gm Vm wr ∧ Lok wr gm 35 #[.int .i64 U, .int .i64 V, .int .i64 N]) (fun x _ => 3 - (intOf x).toNat)
      case atStart => exact ⟨0, 0, 0, 0, rfl, .inl ⟨rfl, rfl, rfl, rfl⟩, (Below.refl Vm.heap.size Vm).mono (by have := km0.out.lt; omega), km0.out⟩
      case round =>
        obtain ⟨j, U, V, N, rfl, hj, hB0, hm⟩ := hrel
        replace kp := Lib.hid (kp.out.keepB hB0 (by omega))
        replace kt := Lib.hid (kt.out.keepB hB0 (by omega))
        replace kr := Lib.hid (kr.out.keepB hB0 (by omega))
        have km := Lib.hid hm
        have HB := Lib.hid (H0.out.trans (hB0.mono (by omega)))
        have H1 := Lib.hid hB0
        clear hm km0 hB0
        rcases hj with ⟨rfl, rfl, rfl, rfl⟩ | ⟨rfl, rfl, rfl, rfl⟩ | ⟨rfl, rfl, rfl, rfl⟩ | ⟨rfl, rfl, rfl, rfl⟩
        · go_upto_region 11 with fail
          have qp0 : ∀ D : Of (PastV wr), _ := fun D => (kp.out.keep (show Below wr.heap.size wr D.world from D.holds)).cell (i := 0) rfl
          have qp1 : ∀ D : Of (PastV wr), _ := fun D => (kp.out.keep (show Below wr.heap.size wr D.world from D.holds)).cell (i := 1) rfl
          have qt0 : ∀ D : Of (PastV wr), _ := fun D => (kt.out.keep (show Below wr.heap.size wr D.world from D.holds)).cell (i := 0) rfl
          have qt1 : ∀ D : Of (PastV wr), _ := fun D => (kt.out.keep (show Below wr.heap.size wr D.world from D.holds)).cell (i := 1) rfl
          have qt2 : ∀ D : Of (PastV wr), _ := fun D => (kt.out.keep (show Below wr.heap.size wr D.world from D.holds)).cell (i := 2) rfl
          have qt3 : ∀ D : Of (PastV wr), _ := fun D => (kt.out.keep (show Below wr.heap.size wr D.world from D.holds)).cell (i := 3) rfl
          have qt4 : ∀ D : Of (PastV wr), _ := fun D => (kt.out.keep (show Below wr.heap.size wr D.world from D.holds)).cell (i := 4) rfl
          have qt5 : ∀ D : Of (PastV wr), _ := fun D => (kt.out.keep (show Below wr.heap.size wr D.world from D.holds)).cell (i := 5) rfl
          have ST := Lib.hid (pastV_stays wr)
          have ne : Nonempty (Of (PastV wr)) := ⟨⟨wr, Below.refl _ _⟩⟩
          refine wp_region_class (S := PastV wr) (by kernel_rfl) (by kernel_rfl) (Below.refl _ _).drew ?_
          repeat (go_big_quiet_step (first | (go_at_call 31; first | (with_reducible exact class_call ST.out _ (A0.out _)))))
          refine wpQuiet_nil ?_
          rintro _ ⟨D, rfl⟩
          have hD : Below wr.heap.size wr D.world := D.holds
          have H2 := Lib.hid (H1.out.trans (hD.mono (by have := km.out.lt; omega)))
          replace HB := Lib.hid (HB.out.trans (hD.mono HB.out.size))
          replace kp := Lib.hid (kp.out.keep hD)
          replace kt := Lib.hid (kt.out.keep hD)
          replace kr := Lib.hid (kr.out.keep hD)
          replace km := Lib.hid (km.out.keep hD)
          generalize D.world = vd at *
          clear qp0 qp1 qt0 qt1 qt2 qt3 qt4 qt5 ne ST hD
          have m0 := km.out.cell (i := 0) rfl
          have m1 := km.out.cell (i := 1) rfl
          have m2 := km.out.cell (i := 2) rfl
          have fm0 := km.out.frozen 0
          have fm1 := km.out.frozen 1
          have fm2 := km.out.frozen 2
          go_wp2
          go_roundw
          case rel => exact ⟨1, _, _, _, rfl, .inr (.inl ⟨rfl, rfl, rfl, rfl⟩), H2.out.setCell (Nat.le_refl _) _, km.out.set (i := 0)⟩
          case measure => simp [intOf]
        · go_upto_region 11 with fail
          have qp0 : ∀ D : Of (PastV wr), _ := fun D => (kp.out.keep (show Below wr.heap.size wr D.world from D.holds)).cell (i := 0) rfl
          have qp1 : ∀ D : Of (PastV wr), _ := fun D => (kp.out.keep (show Below wr.heap.size wr D.world from D.holds)).cell (i := 1) rfl
          have qt0 : ∀ D : Of (PastV wr), _ := fun D => (kt.out.keep (show Below wr.heap.size wr D.world from D.holds)).cell (i := 0) rfl
          have qt1 : ∀ D : Of (PastV wr), _ := fun D => (kt.out.keep (show Below wr.heap.size wr D.world from D.holds)).cell (i := 1) rfl
          have qt2 : ∀ D : Of (PastV wr), _ := fun D => (kt.out.keep (show Below wr.heap.size wr D.world from D.holds)).cell (i := 2) rfl
          have qt3 : ∀ D : Of (PastV wr), _ := fun D => (kt.out.keep (show Below wr.heap.size wr D.world from D.holds)).cell (i := 3) rfl
          have qt4 : ∀ D : Of (PastV wr), _ := fun D => (kt.out.keep (show Below wr.heap.size wr D.world from D.holds)).cell (i := 4) rfl
          have qt5 : ∀ D : Of (PastV wr), _ := fun D => (kt.out.keep (show Below wr.heap.size wr D.world from D.holds)).cell (i := 5) rfl
          have ST := Lib.hid (pastV_stays wr)
          have ne : Nonempty (Of (PastV wr)) := ⟨⟨wr, Below.refl _ _⟩⟩
          refine wp_region_class (S := PastV wr) (by kernel_rfl) (by kernel_rfl) (Below.refl _ _).drew ?_
          repeat (go_big_quiet_step (first | (go_at_call 31; first | (with_reducible exact class_call ST.out _ (A1.out _)))))
          refine wpQuiet_nil ?_
          rintro _ ⟨D, rfl⟩
          have hD : Below wr.heap.size wr D.world := D.holds
          have H2 := Lib.hid (H1.out.trans (hD.mono (by have := km.out.lt; omega)))
          replace HB := Lib.hid (HB.out.trans (hD.mono HB.out.size))
          replace kp := Lib.hid (kp.out.keep hD)
          replace kt := Lib.hid (kt.out.keep hD)
          replace kr := Lib.hid (kr.out.keep hD)
          replace km := Lib.hid (km.out.keep hD)
          generalize D.world = vd at *
          clear qp0 qp1 qt0 qt1 qt2 qt3 qt4 qt5 ne ST hD
          have m0 := km.out.cell (i := 0) rfl
          have m1 := km.out.cell (i := 1) rfl
          have m2 := km.out.cell (i := 2) rfl
          have fm0 := km.out.frozen 0
          have fm1 := km.out.frozen 1
          have fm2 := km.out.frozen 2
          go_wp2
          go_roundw
          case rel => exact ⟨2, _, _, _, rfl, .inr (.inr (.inl ⟨rfl, rfl, rfl, rfl⟩)), H2.out.setCell (Nat.le_refl _) _, km.out.set (i := 1)⟩
          case measure => simp [intOf]
        · go_upto_region 11 with fail
          have qp0 : ∀ D : Of (PastV wr), _ := fun D => (kp.out.keep (show Below wr.heap.size wr D.world from D.holds)).cell (i := 0) rfl
          have qp1 : ∀ D : Of (PastV wr), _ := fun D => (kp.out.keep (show Below wr.heap.size wr D.world from D.holds)).cell (i := 1) rfl
          have qt0 : ∀ D : Of (PastV wr), _ := fun D => (kt.out.keep (show Below wr.heap.size wr D.world from D.holds)).cell (i := 0) rfl
          have qt1 : ∀ D : Of (PastV wr), _ := fun D => (kt.out.keep (show Below wr.heap.size wr D.world from D.holds)).cell (i := 1) rfl
          have qt2 : ∀ D : Of (PastV wr), _ := fun D => (kt.out.keep (show Below wr.heap.size wr D.world from D.holds)).cell (i := 2) rfl
          have qt3 : ∀ D : Of (PastV wr), _ := fun D => (kt.out.keep (show Below wr.heap.size wr D.world from D.holds)).cell (i := 3) rfl
          have qt4 : ∀ D : Of (PastV wr), _ := fun D => (kt.out.keep (show Below wr.heap.size wr D.world from D.holds)).cell (i := 4) rfl
          have qt5 : ∀ D : Of (PastV wr), _ := fun D => (kt.out.keep (show Below wr.heap.size wr D.world from D.holds)).cell (i := 5) rfl
          have ST := Lib.hid (pastV_stays wr)
          have ne : Nonempty (Of (PastV wr)) := ⟨⟨wr, Below.refl _ _⟩⟩
          refine wp_region_class (S := PastV wr) (by kernel_rfl) (by kernel_rfl) (Below.refl _ _).drew ?_
          repeat (go_big_quiet_step (first | (go_at_call 31; first | (with_reducible exact class_call ST.out _ (A2.out _)))))
          refine wpQuiet_nil ?_
          rintro _ ⟨D, rfl⟩
          have hD : Below wr.heap.size wr D.world := D.holds
          have H2 := Lib.hid (H1.out.trans (hD.mono (by have := km.out.lt; omega)))
          replace HB := Lib.hid (HB.out.trans (hD.mono HB.out.size))
          replace kp := Lib.hid (kp.out.keep hD)
          replace kt := Lib.hid (kt.out.keep hD)
          replace kr := Lib.hid (kr.out.keep hD)
          replace km := Lib.hid (km.out.keep hD)
          generalize D.world = vd at *
          clear qp0 qp1 qt0 qt1 qt2 qt3 qt4 qt5 ne ST hD
          have m0 := km.out.cell (i := 0) rfl
          have m1 := km.out.cell (i := 1) rfl
          have m2 := km.out.cell (i := 2) rfl
          have fm0 := km.out.frozen 0
          have fm1 := km.out.frozen 1
          have fm2 := km.out.frozen 2
          go_wp2
          go_roundw
          case rel => exact ⟨3, _, _, _, rfl, .inr (.inr (.inr ⟨rfl, rfl, rfl, rfl⟩)), H2.out.setCell (Nat.le_refl _) _, km.out.set (i := 2)⟩
          case measure => simp [intOf]
        · have m0 := km.out.cell (i := 0) rfl
          have m1 := km.out.cell (i := 1) rfl
          have m2 := km.out.cell (i := 2) rfl
          have r0 := kr.out.cell (i := 0) rfl
          have r1 := kr.out.cell (i := 1) rfl
          have r2 := kr.out.cell (i := 2) rfl
          have fr0 := kr.out.frozen 0
          have fr1 := kr.out.frozen 1
          have fr2 := kr.out.frozen 2
          go_wp2_with fail
          exact bodyPost_ret (v := .tuple #[.agg #[.int .i64 U, .int .i64 V, .int .i64 N], .int .i64 (n * o), .int .i64 0]) (by simp [results, Try.results12, go_sem, r0, r1, r2]) rfl ⟨rfl, ((HB.out.setCell (by simp <;> omega) _).setCell (by simp <;> omega) _).setCell (by simp <;> omega) _⟩
set_option maxRecDepth 100000 in
set_option maxHeartbeats 8000000 in
theorem rweights_any (x y a1 a2 b1 b2 c1 c2 : Int) (w : World) :
    Calls Try.prog 13 #[.agg #[.int .i64 x, .int .i64 y], .agg #[.int .i64 a1, .int .i64 a2, .int .i64 b1, .int .i64 b2, .int .i64 c1, .int .i64 c2]] w fun e' w' => e' = .returned (.tuple #[.agg #[.int .i64 (gV (s2 x y) (rT a1 a2 b1 b2 c1 c2) (wA x y a1 a2 b1 b2 c1 c2)), .int .i64 (gV (s2 x y) (rT a1 a2 b1 b2 c1 c2) (wB x y a1 a2 b1 b2 c1 c2)), .int .i64 (gV (s2 x y) (rT a1 a2 b1 b2 c1 c2) (wC x y a1 a2 b1 b2 c1 c2))], .int .i64 (gV (s2 x y) (rT a1 a2 b1 b2 c1 c2) (wW a1 a2 b1 b2 c1 c2)), .int .i64 (iE (s2 x y) (rT a1 a2 b1 b2 c1 c2))]) ∧ Below w.heap.size w w' := by
  have HB := Lib.hid (Below.refl w.heap.size w)
  have IN := Lib.hid (fun W => rin_any x y a1 a2 b1 b2 c1 c2 W)
  cases hs : s2 x y with
  | false =>
    rw [hs, show iV false (rT a1 a2 b1 b2 c1 c2) (r1 a1 a2 b1 b2 c1 c2 x y) = 0 from rfl, iE_no] at IN
    simp only [gV_no, iE_no]
    clear hs
    go_enter Try.func13, Try.ntmps13
    go_upto_region 1 with fail
    have hbp := below_new1 w (.cells #[.int .i64 x, .int .i64 y] 23)
    have zp : (w.alloc (.cells #[.int .i64 x, .int .i64 y] 23)).heap.size = w.heap.size + 1 := by simp
    have HB := Lib.hid hbp
    have kp := Lib.hid (Lok.new w 23 #[.int .i64 x, .int .i64 y])
    clear hbp
    generalize w.alloc (.cells #[.int .i64 x, .int .i64 y] 23) = Vp at *
    have hbt := below_new1 Vp (.cells #[.int .i64 a1, .int .i64 a2, .int .i64 b1, .int .i64 b2, .int .i64 c1, .int .i64 c2] 24)
    replace kp := Lib.hid (kp.out.keep hbt)
    have zt : (Vp.alloc (.cells #[.int .i64 a1, .int .i64 a2, .int .i64 b1, .int .i64 b2, .int .i64 c1, .int .i64 c2] 24)).heap.size = Vp.heap.size + 1 := by simp
    replace HB := Lib.hid (HB.out.trans (hbt.mono HB.out.size))
    have kt := Lib.hid (Lok.new Vp 24 #[.int .i64 a1, .int .i64 a2, .int .i64 b1, .int .i64 b2, .int .i64 c1, .int .i64 c2])
    clear hbt
    generalize Vp.alloc (.cells #[.int .i64 a1, .int .i64 a2, .int .i64 b1, .int .i64 b2, .int .i64 c1, .int .i64 c2] 24) = Vt at *
    rw [zp] at kt zt
    have hbr := below_new1 Vt (.cells #[.int .i64 0, .int .i64 0, .int .i64 0] 35)
    replace kp := Lib.hid (kp.out.keep hbr)
    replace kt := Lib.hid (kt.out.keep hbr)
    have zr : (Vt.alloc (.cells #[.int .i64 0, .int .i64 0, .int .i64 0] 35)).heap.size = Vt.heap.size + 1 := by simp
    replace HB := Lib.hid (HB.out.trans (hbr.mono HB.out.size))
    have kr := Lib.hid (Lok.new Vt 35 #[.int .i64 0, .int .i64 0, .int .i64 0])
    clear hbr
    generalize Vt.alloc (.cells #[.int .i64 0, .int .i64 0, .int .i64 0] 35) = Vr at *
    rw [zt] at kr
    clear zp zt zr
    have p0 := kp.out.cell (i := 0) rfl
    have p1 := kp.out.cell (i := 1) rfl
    have t0 := kt.out.cell (i := 0) rfl
    have t1 := kt.out.cell (i := 1) rfl
    have t2 := kt.out.cell (i := 2) rfl
    have t3 := kt.out.cell (i := 3) rfl
    have t4 := kt.out.cell (i := 4) rfl
    have t5 := kt.out.cell (i := 5) rfl
    go_wp2_with fail
    clear p0 p1 t0 t1 t2 t3 t4 t5
    (((with_reducible refine (IN.out _).mono ?_); rintro e w1 ⟨rfl, hb1⟩); replace HB := Lib.hid (HB.out.trans (hb1.mono HB.out.size)); replace kp := Lib.hid (kp.out.keep hb1); replace kt := Lib.hid (kt.out.keep hb1); replace kr := Lib.hid (kr.out.keep hb1); clear hb1)
    have r0 := kr.out.cell (i := 0) rfl
    have r1 := kr.out.cell (i := 1) rfl
    have r2 := kr.out.cell (i := 2) rfl
    have fr0 := kr.out.frozen 0
    have fr1 := kr.out.frozen 1
    have fr2 := kr.out.frozen 2
    go_wp2_with fail
    exact bodyPost_ret (v := .tuple #[.agg #[.int .i64 0, .int .i64 0, .int .i64 0], .int .i64 0, .int .i64 5]) (by simp [results, Try.results13, go_sem, r0, r1, r2]) rfl ⟨rfl, ((HB.out.setCell (by simp <;> omega) _).setCell (by simp <;> omega) _).setCell (by simp <;> omega) _⟩
  | true =>
    rw [hs] at IN
    cases ha : rT a1 a2 b1 b2 c1 c2 with
    | false =>
      rw [ha, show iV true false (r1 a1 a2 b1 b2 c1 c2 x y) = 0 from rfl, iE_arg] at IN
      simp only [gV_arg, iE_arg]
      clear hs ha
      go_enter Try.func13, Try.ntmps13
      go_upto_region 1 with fail
      have hbp := below_new1 w (.cells #[.int .i64 x, .int .i64 y] 23)
      have zp : (w.alloc (.cells #[.int .i64 x, .int .i64 y] 23)).heap.size = w.heap.size + 1 := by simp
      have HB := Lib.hid hbp
      have kp := Lib.hid (Lok.new w 23 #[.int .i64 x, .int .i64 y])
      clear hbp
      generalize w.alloc (.cells #[.int .i64 x, .int .i64 y] 23) = Vp at *
      have hbt := below_new1 Vp (.cells #[.int .i64 a1, .int .i64 a2, .int .i64 b1, .int .i64 b2, .int .i64 c1, .int .i64 c2] 24)
      replace kp := Lib.hid (kp.out.keep hbt)
      have zt : (Vp.alloc (.cells #[.int .i64 a1, .int .i64 a2, .int .i64 b1, .int .i64 b2, .int .i64 c1, .int .i64 c2] 24)).heap.size = Vp.heap.size + 1 := by simp
      replace HB := Lib.hid (HB.out.trans (hbt.mono HB.out.size))
      have kt := Lib.hid (Lok.new Vp 24 #[.int .i64 a1, .int .i64 a2, .int .i64 b1, .int .i64 b2, .int .i64 c1, .int .i64 c2])
      clear hbt
      generalize Vp.alloc (.cells #[.int .i64 a1, .int .i64 a2, .int .i64 b1, .int .i64 b2, .int .i64 c1, .int .i64 c2] 24) = Vt at *
      rw [zp] at kt zt
      have hbr := below_new1 Vt (.cells #[.int .i64 0, .int .i64 0, .int .i64 0] 35)
      replace kp := Lib.hid (kp.out.keep hbr)
      replace kt := Lib.hid (kt.out.keep hbr)
      have zr : (Vt.alloc (.cells #[.int .i64 0, .int .i64 0, .int .i64 0] 35)).heap.size = Vt.heap.size + 1 := by simp
      replace HB := Lib.hid (HB.out.trans (hbr.mono HB.out.size))
      have kr := Lib.hid (Lok.new Vt 35 #[.int .i64 0, .int .i64 0, .int .i64 0])
      clear hbr
      generalize Vt.alloc (.cells #[.int .i64 0, .int .i64 0, .int .i64 0] 35) = Vr at *
      rw [zt] at kr
      clear zp zt zr
      have p0 := kp.out.cell (i := 0) rfl
      have p1 := kp.out.cell (i := 1) rfl
      have t0 := kt.out.cell (i := 0) rfl
      have t1 := kt.out.cell (i := 1) rfl
      have t2 := kt.out.cell (i := 2) rfl
      have t3 := kt.out.cell (i := 3) rfl
      have t4 := kt.out.cell (i := 4) rfl
      have t5 := kt.out.cell (i := 5) rfl
      go_wp2_with fail
      clear p0 p1 t0 t1 t2 t3 t4 t5
      (((with_reducible refine (IN.out _).mono ?_); rintro e w1 ⟨rfl, hb1⟩); replace HB := Lib.hid (HB.out.trans (hb1.mono HB.out.size)); replace kp := Lib.hid (kp.out.keep hb1); replace kt := Lib.hid (kt.out.keep hb1); replace kr := Lib.hid (kr.out.keep hb1); clear hb1)
      have r0 := kr.out.cell (i := 0) rfl
      have r1 := kr.out.cell (i := 1) rfl
      have r2 := kr.out.cell (i := 2) rfl
      have fr0 := kr.out.frozen 0
      have fr1 := kr.out.frozen 1
      have fr2 := kr.out.frozen 2
      go_wp2_with fail
      exact bodyPost_ret (v := .tuple #[.agg #[.int .i64 0, .int .i64 0, .int .i64 0], .int .i64 0, .int .i64 1]) (by simp [results, Try.results13, go_sem, r0, r1, r2]) rfl ⟨rfl, ((HB.out.setCell (by simp <;> omega) _).setCell (by simp <;> omega) _).setCell (by simp <;> omega) _⟩
    | true =>
      rw [ha, iE_yes] at IN
      simp only [gV_yes, iE_yes]
      generalize iV true true (r1 a1 a2 b1 b2 c1 c2 x y) = i0 at *
      obtain ⟨h1, h2, h3⟩ := small_of3 (rT_small ha)
      have hn := (rT_iff.1 ha).2.2.2
      have AR := Lib.hid (fun W => rarea_any a1 a2 b1 b2 c1 c2 true (by rw [h1, h2, h3]; rfl) W)
      have A0 := Lib.hid (fun W => rarea_any x y b1 b2 c1 c2 true (by rw [hs, h2, h3]; rfl) W)
      have A1 := Lib.hid (fun W => rarea_any x y c1 c2 a1 a2 true (by rw [hs, h3, h1]; rfl) W)
      have A2 := Lib.hid (fun W => rarea_any x y a1 a2 b1 b2 true (by rw [hs, h1, h2]; rfl) W)
      simp only [vF_yes, show rE true = 0 from rfl] at AR A0 A1 A2
      have f0 := wg_bd (A := ar a1 a2 b1 b2 c1 c2) (ar_s2 hs h2 h3)
      have f1 := wg_bd (A := ar a1 a2 b1 b2 c1 c2) (ar_s2 hs h3 h1)
      have f2 := wg_bd (A := ar a1 a2 b1 b2 c1 c2) (ar_s2 hs h1 h2)
      have f3 := wg_bd (A := ar a1 a2 b1 b2 c1 c2) (ar_s2 h1 h2 h3)
      unfold wA wB wC wW
      unfold wg at *
      generalize ar a1 a2 b1 b2 c1 c2 = n at *
      generalize ar x y b1 b2 c1 c2 = n0 at *
      generalize ar x y c1 c2 a1 a2 = n1 at *
      generalize ar x y a1 a2 b1 b2 = n2 at *
      clear hs ha h1 h2 h3
      rcases ordI_ways n 0 with ⟨q, e⟩ | ⟨q, e⟩ | ⟨q, e⟩
      · rw [e] at f0 f1 f2 f3 ⊢
        rw [show n0 * -1 = (-n0) by omega, show n1 * -1 = (-n1) by omega, show n2 * -1 = (-n2) by omega, show n * -1 = (-n) by omega] at *
        have e0 : IntKind.i64.wrap (-n0) = (-n0) := IntWalk.i64_in _ (by omega)
        have e1 : IntKind.i64.wrap (-n1) = (-n1) := IntWalk.i64_in _ (by omega)
        have e2 : IntKind.i64.wrap (-n2) = (-n2) := IntWalk.i64_in _ (by omega)
        have e3 : IntKind.i64.wrap (-n) = (-n) := IntWalk.i64_in _ (by omega)
        
        clear f0 f1 f2 f3 e hn
        go_enter Try.func13, Try.ntmps13
        go_upto_region 1 with fail
        have hbp := below_new1 w (.cells #[.int .i64 x, .int .i64 y] 23)
        have zp : (w.alloc (.cells #[.int .i64 x, .int .i64 y] 23)).heap.size = w.heap.size + 1 := by simp
        have HB := Lib.hid hbp
        have kp := Lib.hid (Lok.new w 23 #[.int .i64 x, .int .i64 y])
        clear hbp
        generalize w.alloc (.cells #[.int .i64 x, .int .i64 y] 23) = Vp at *
        have hbt := below_new1 Vp (.cells #[.int .i64 a1, .int .i64 a2, .int .i64 b1, .int .i64 b2, .int .i64 c1, .int .i64 c2] 24)
        replace kp := Lib.hid (kp.out.keep hbt)
        have zt : (Vp.alloc (.cells #[.int .i64 a1, .int .i64 a2, .int .i64 b1, .int .i64 b2, .int .i64 c1, .int .i64 c2] 24)).heap.size = Vp.heap.size + 1 := by simp
        replace HB := Lib.hid (HB.out.trans (hbt.mono HB.out.size))
        have kt := Lib.hid (Lok.new Vp 24 #[.int .i64 a1, .int .i64 a2, .int .i64 b1, .int .i64 b2, .int .i64 c1, .int .i64 c2])
        clear hbt
        generalize Vp.alloc (.cells #[.int .i64 a1, .int .i64 a2, .int .i64 b1, .int .i64 b2, .int .i64 c1, .int .i64 c2] 24) = Vt at *
        rw [zp] at kt zt
        have hbr := below_new1 Vt (.cells #[.int .i64 0, .int .i64 0, .int .i64 0] 35)
        replace kp := Lib.hid (kp.out.keep hbr)
        replace kt := Lib.hid (kt.out.keep hbr)
        have zr : (Vt.alloc (.cells #[.int .i64 0, .int .i64 0, .int .i64 0] 35)).heap.size = Vt.heap.size + 1 := by simp
        replace HB := Lib.hid (HB.out.trans (hbr.mono HB.out.size))
        have kr := Lib.hid (Lok.new Vt 35 #[.int .i64 0, .int .i64 0, .int .i64 0])
        clear hbr
        generalize Vt.alloc (.cells #[.int .i64 0, .int .i64 0, .int .i64 0] 35) = Vr at *
        rw [zt] at kr
        clear zp zt zr
        have p0 := kp.out.cell (i := 0) rfl
        have p1 := kp.out.cell (i := 1) rfl
        have t0 := kt.out.cell (i := 0) rfl
        have t1 := kt.out.cell (i := 1) rfl
        have t2 := kt.out.cell (i := 2) rfl
        have t3 := kt.out.cell (i := 3) rfl
        have t4 := kt.out.cell (i := 4) rfl
        have t5 := kt.out.cell (i := 5) rfl
        go_wp2_with fail
        clear p0 p1 t0 t1 t2 t3 t4 t5
        (((with_reducible refine (IN.out _).mono ?_); rintro e w1 ⟨rfl, hb1⟩); replace HB := Lib.hid (HB.out.trans (hb1.mono HB.out.size)); replace kp := Lib.hid (kp.out.keep hb1); replace kt := Lib.hid (kt.out.keep hb1); replace kr := Lib.hid (kr.out.keep hb1); clear hb1)
        have t0 := kt.out.cell (i := 0) rfl
        have t1 := kt.out.cell (i := 1) rfl
        have t2 := kt.out.cell (i := 2) rfl
        have t3 := kt.out.cell (i := 3) rfl
        have t4 := kt.out.cell (i := 4) rfl
        have t5 := kt.out.cell (i := 5) rfl
        go_wp2_with fail
        clear t0 t1 t2 t3 t4 t5
        (((with_reducible refine (AR.out _).mono ?_); rintro e w2 ⟨rfl, hb2⟩); replace HB := Lib.hid (HB.out.trans (hb2.mono HB.out.size)); replace kp := Lib.hid (kp.out.keep hb2); replace kt := Lib.hid (kt.out.keep hb2); replace kr := Lib.hid (kr.out.keep hb2); clear hb2)
        have p0 := kp.out.cell (i := 0) rfl
        have p1 := kp.out.cell (i := 1) rfl
        have t0 := kt.out.cell (i := 0) rfl
        have t1 := kt.out.cell (i := 1) rfl
        have t2 := kt.out.cell (i := 2) rfl
        have t3 := kt.out.cell (i := 3) rfl
        have t4 := kt.out.cell (i := 4) rfl
        have t5 := kt.out.cell (i := 5) rfl
        go_wp2_with fail
        clear p0 p1 t0 t1 t2 t3 t4 t5
        (((with_reducible refine (A0.out _).mono ?_); rintro e w3 ⟨rfl, hb3⟩); replace HB := Lib.hid (HB.out.trans (hb3.mono HB.out.size)); replace kp := Lib.hid (kp.out.keep hb3); replace kt := Lib.hid (kt.out.keep hb3); replace kr := Lib.hid (kr.out.keep hb3); clear hb3)
        have p0 := kp.out.cell (i := 0) rfl
        have p1 := kp.out.cell (i := 1) rfl
        have t0 := kt.out.cell (i := 0) rfl
        have t1 := kt.out.cell (i := 1) rfl
        have t2 := kt.out.cell (i := 2) rfl
        have t3 := kt.out.cell (i := 3) rfl
        have t4 := kt.out.cell (i := 4) rfl
        have t5 := kt.out.cell (i := 5) rfl
        go_wp2_with fail
        clear p0 p1 t0 t1 t2 t3 t4 t5
        (((with_reducible refine (A1.out _).mono ?_); rintro e w4 ⟨rfl, hb4⟩); replace HB := Lib.hid (HB.out.trans (hb4.mono HB.out.size)); replace kp := Lib.hid (kp.out.keep hb4); replace kt := Lib.hid (kt.out.keep hb4); replace kr := Lib.hid (kr.out.keep hb4); clear hb4)
        have p0 := kp.out.cell (i := 0) rfl
        have p1 := kp.out.cell (i := 1) rfl
        have t0 := kt.out.cell (i := 0) rfl
        have t1 := kt.out.cell (i := 1) rfl
        have t2 := kt.out.cell (i := 2) rfl
        have t3 := kt.out.cell (i := 3) rfl
        have t4 := kt.out.cell (i := 4) rfl
        have t5 := kt.out.cell (i := 5) rfl
        go_wp2_with fail
        clear p0 p1 t0 t1 t2 t3 t4 t5
        (((with_reducible refine (A2.out _).mono ?_); rintro e w5 ⟨rfl, hb5⟩); replace HB := Lib.hid (HB.out.trans (hb5.mono HB.out.size)); replace kp := Lib.hid (kp.out.keep hb5); replace kt := Lib.hid (kt.out.keep hb5); replace kr := Lib.hid (kr.out.keep hb5); clear hb5)
        have r0 := kr.out.cell (i := 0) rfl
        have r1 := kr.out.cell (i := 1) rfl
        have r2 := kr.out.cell (i := 2) rfl
        have fr0 := kr.out.frozen 0
        have fr1 := kr.out.frozen 1
        have fr2 := kr.out.frozen 2
        go_wp2_with fail
        exact bodyPost_ret (v := .tuple #[.agg #[.int .i64 (-n0), .int .i64 (-n1), .int .i64 (-n2)], .int .i64 (-n), .int .i64 0]) (by simp [results, Try.results13, go_sem, r0, r1, r2]) rfl ⟨rfl, ((HB.out.setCell (by simp <;> omega) _).setCell (by simp <;> omega) _).setCell (by simp <;> omega) _⟩
      · exact absurd q hn
      · rw [e] at f0 f1 f2 f3 ⊢
        rw [show n0 * 1 = n0 by omega, show n1 * 1 = n1 by omega, show n2 * 1 = n2 by omega, show n * 1 = n by omega] at *
        have e0 : IntKind.i64.wrap n0 = n0 := IntWalk.i64_in _ (by omega)
        have e1 : IntKind.i64.wrap n1 = n1 := IntWalk.i64_in _ (by omega)
        have e2 : IntKind.i64.wrap n2 = n2 := IntWalk.i64_in _ (by omega)
        have e3 : IntKind.i64.wrap n = n := IntWalk.i64_in _ (by omega)
        replace q : ¬ n < 0 := by omega
        clear f0 f1 f2 f3 e hn
        go_enter Try.func13, Try.ntmps13
        go_upto_region 1 with fail
        have hbp := below_new1 w (.cells #[.int .i64 x, .int .i64 y] 23)
        have zp : (w.alloc (.cells #[.int .i64 x, .int .i64 y] 23)).heap.size = w.heap.size + 1 := by simp
        have HB := Lib.hid hbp
        have kp := Lib.hid (Lok.new w 23 #[.int .i64 x, .int .i64 y])
        clear hbp
        generalize w.alloc (.cells #[.int .i64 x, .int .i64 y] 23) = Vp at *
        have hbt := below_new1 Vp (.cells #[.int .i64 a1, .int .i64 a2, .int .i64 b1, .int .i64 b2, .int .i64 c1, .int .i64 c2] 24)
        replace kp := Lib.hid (kp.out.keep hbt)
        have zt : (Vp.alloc (.cells #[.int .i64 a1, .int .i64 a2, .int .i64 b1, .int .i64 b2, .int .i64 c1, .int .i64 c2] 24)).heap.size = Vp.heap.size + 1 := by simp
        replace HB := Lib.hid (HB.out.trans (hbt.mono HB.out.size))
        have kt := Lib.hid (Lok.new Vp 24 #[.int .i64 a1, .int .i64 a2, .int .i64 b1, .int .i64 b2, .int .i64 c1, .int .i64 c2])
        clear hbt
        generalize Vp.alloc (.cells #[.int .i64 a1, .int .i64 a2, .int .i64 b1, .int .i64 b2, .int .i64 c1, .int .i64 c2] 24) = Vt at *
        rw [zp] at kt zt
        have hbr := below_new1 Vt (.cells #[.int .i64 0, .int .i64 0, .int .i64 0] 35)
        replace kp := Lib.hid (kp.out.keep hbr)
        replace kt := Lib.hid (kt.out.keep hbr)
        have zr : (Vt.alloc (.cells #[.int .i64 0, .int .i64 0, .int .i64 0] 35)).heap.size = Vt.heap.size + 1 := by simp
        replace HB := Lib.hid (HB.out.trans (hbr.mono HB.out.size))
        have kr := Lib.hid (Lok.new Vt 35 #[.int .i64 0, .int .i64 0, .int .i64 0])
        clear hbr
        generalize Vt.alloc (.cells #[.int .i64 0, .int .i64 0, .int .i64 0] 35) = Vr at *
        rw [zt] at kr
        clear zp zt zr
        have p0 := kp.out.cell (i := 0) rfl
        have p1 := kp.out.cell (i := 1) rfl
        have t0 := kt.out.cell (i := 0) rfl
        have t1 := kt.out.cell (i := 1) rfl
        have t2 := kt.out.cell (i := 2) rfl
        have t3 := kt.out.cell (i := 3) rfl
        have t4 := kt.out.cell (i := 4) rfl
        have t5 := kt.out.cell (i := 5) rfl
        go_wp2_with fail
        clear p0 p1 t0 t1 t2 t3 t4 t5
        (((with_reducible refine (IN.out _).mono ?_); rintro e w1 ⟨rfl, hb1⟩); replace HB := Lib.hid (HB.out.trans (hb1.mono HB.out.size)); replace kp := Lib.hid (kp.out.keep hb1); replace kt := Lib.hid (kt.out.keep hb1); replace kr := Lib.hid (kr.out.keep hb1); clear hb1)
        have t0 := kt.out.cell (i := 0) rfl
        have t1 := kt.out.cell (i := 1) rfl
        have t2 := kt.out.cell (i := 2) rfl
        have t3 := kt.out.cell (i := 3) rfl
        have t4 := kt.out.cell (i := 4) rfl
        have t5 := kt.out.cell (i := 5) rfl
        go_wp2_with fail
        clear t0 t1 t2 t3 t4 t5
        (((with_reducible refine (AR.out _).mono ?_); rintro e w2 ⟨rfl, hb2⟩); replace HB := Lib.hid (HB.out.trans (hb2.mono HB.out.size)); replace kp := Lib.hid (kp.out.keep hb2); replace kt := Lib.hid (kt.out.keep hb2); replace kr := Lib.hid (kr.out.keep hb2); clear hb2)
        have p0 := kp.out.cell (i := 0) rfl
        have p1 := kp.out.cell (i := 1) rfl
        have t0 := kt.out.cell (i := 0) rfl
        have t1 := kt.out.cell (i := 1) rfl
        have t2 := kt.out.cell (i := 2) rfl
        have t3 := kt.out.cell (i := 3) rfl
        have t4 := kt.out.cell (i := 4) rfl
        have t5 := kt.out.cell (i := 5) rfl
        go_wp2_with fail
        clear p0 p1 t0 t1 t2 t3 t4 t5
        (((with_reducible refine (A0.out _).mono ?_); rintro e w3 ⟨rfl, hb3⟩); replace HB := Lib.hid (HB.out.trans (hb3.mono HB.out.size)); replace kp := Lib.hid (kp.out.keep hb3); replace kt := Lib.hid (kt.out.keep hb3); replace kr := Lib.hid (kr.out.keep hb3); clear hb3)
        have p0 := kp.out.cell (i := 0) rfl
        have p1 := kp.out.cell (i := 1) rfl
        have t0 := kt.out.cell (i := 0) rfl
        have t1 := kt.out.cell (i := 1) rfl
        have t2 := kt.out.cell (i := 2) rfl
        have t3 := kt.out.cell (i := 3) rfl
        have t4 := kt.out.cell (i := 4) rfl
        have t5 := kt.out.cell (i := 5) rfl
        go_wp2_with fail
        clear p0 p1 t0 t1 t2 t3 t4 t5
        (((with_reducible refine (A1.out _).mono ?_); rintro e w4 ⟨rfl, hb4⟩); replace HB := Lib.hid (HB.out.trans (hb4.mono HB.out.size)); replace kp := Lib.hid (kp.out.keep hb4); replace kt := Lib.hid (kt.out.keep hb4); replace kr := Lib.hid (kr.out.keep hb4); clear hb4)
        have p0 := kp.out.cell (i := 0) rfl
        have p1 := kp.out.cell (i := 1) rfl
        have t0 := kt.out.cell (i := 0) rfl
        have t1 := kt.out.cell (i := 1) rfl
        have t2 := kt.out.cell (i := 2) rfl
        have t3 := kt.out.cell (i := 3) rfl
        have t4 := kt.out.cell (i := 4) rfl
        have t5 := kt.out.cell (i := 5) rfl
        go_wp2_with fail
        clear p0 p1 t0 t1 t2 t3 t4 t5
        (((with_reducible refine (A2.out _).mono ?_); rintro e w5 ⟨rfl, hb5⟩); replace HB := Lib.hid (HB.out.trans (hb5.mono HB.out.size)); replace kp := Lib.hid (kp.out.keep hb5); replace kt := Lib.hid (kt.out.keep hb5); replace kr := Lib.hid (kr.out.keep hb5); clear hb5)
        have r0 := kr.out.cell (i := 0) rfl
        have r1 := kr.out.cell (i := 1) rfl
        have r2 := kr.out.cell (i := 2) rfl
        have fr0 := kr.out.frozen 0
        have fr1 := kr.out.frozen 1
        have fr2 := kr.out.frozen 2
        go_wp2_with fail
        exact bodyPost_ret (v := .tuple #[.agg #[.int .i64 n0, .int .i64 n1, .int .i64 n2], .int .i64 n, .int .i64 0]) (by simp [results, Try.results13, go_sem, r0, r1, r2]) rfl ⟨rfl, ((HB.out.setCell (by simp <;> omega) _).setCell (by simp <;> omega) _).setCell (by simp <;> omega) _⟩
end Go.Proofs.Ytllamakemgogaaa
