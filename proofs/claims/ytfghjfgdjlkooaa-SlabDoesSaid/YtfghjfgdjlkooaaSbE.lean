/-
  Contracts of package slab: Meets. (gen/SbE.py)
-/
import Derived.Test.YtfghjfgdjlkooaaSbC
import Derived.Test.YtfghjfgdjlkooaaSbD
namespace Go.Proofs.Ytfghjfgdjlkooaa
open Go.RowKit

/-- Whether the way meets the box. -/
def meP (a1 a2 a3 c1 c2 c3 l1 l2 l3 h1 h2 h3 : Int) : Bool := mtP (pt a1 a2 a3) (pt c1 c2 c3) (pt l1 l2 l3) (pt h1 h2 h3)
/-- The error of a way's ends and of a box. -/
def meE (t r : Bool) : Int := if t then (if r then 0 else 1) else 5
set_option maxRecDepth 100000 in
set_option maxHeartbeats 8000000 in
theorem meets_any (a1 a2 a3 c1 c2 c3 l1 l2 l3 h1 h2 h3 : Int) (t : Bool) (ht : (s3 a1 a2 a3 && s3 c1 c2 c3) = t) (w : World) :
    Calls Try.prog 12 #[.agg #[.int .i64 a1, .int .i64 a2, .int .i64 a3], .agg #[.int .i64 c1, .int .i64 c2, .int .i64 c3], .agg #[.int .i64 l1, .int .i64 l2, .int .i64 l3, .int .i64 h1, .int .i64 h2, .int .i64 h3]] w fun e' w' => e' = .returned (.tuple #[.bool (t && (bxR l1 l2 l3 h1 h2 h3 && meP a1 a2 a3 c1 c2 c3 l1 l2 l3 h1 h2 h3)), .int .i64 (meE t (bxR l1 l2 l3 h1 h2 h3))]) ∧ Below w.heap.size w w' := by
  have HB := Lib.hid (Below.refl w.heap.size w)
  have O := Lib.hid (fun g T W h => slof_2 a1 a2 a3 c1 c2 c3 t ht g T W h)
  cases t with
  | false =>
    rw [Bool.false_and, show ∀ r, meE false r = 5 from fun _ => rfl]
    simp only [vF_no, show rE false = 5 from rfl] at O
    clear ht
    go_enter Try.func12, Try.ntmps12
    go_upto_region 1 with fail
    have hbx := below_new1 w (.cells #[.int .i64 a1, .int .i64 a2, .int .i64 a3] 23)
    have zx : (w.alloc (.cells #[.int .i64 a1, .int .i64 a2, .int .i64 a3] 23)).heap.size = w.heap.size + 1 := by simp
    have HB := Lib.hid hbx
    have kx := Lib.hid (Lok.new w 23 #[.int .i64 a1, .int .i64 a2, .int .i64 a3])
    clear hbx
    generalize w.alloc (.cells #[.int .i64 a1, .int .i64 a2, .int .i64 a3] 23) = Vx at *
    have hby := below_new1 Vx (.cells #[.int .i64 c1, .int .i64 c2, .int .i64 c3] 23)
    replace kx := Lib.hid (kx.out.keep hby)
    have zy : (Vx.alloc (.cells #[.int .i64 c1, .int .i64 c2, .int .i64 c3] 23)).heap.size = Vx.heap.size + 1 := by simp
    replace HB := Lib.hid (HB.out.trans (hby.mono HB.out.size))
    have ky := Lib.hid (Lok.new Vx 23 #[.int .i64 c1, .int .i64 c2, .int .i64 c3])
    clear hby
    generalize Vx.alloc (.cells #[.int .i64 c1, .int .i64 c2, .int .i64 c3] 23) = Vy at *
    rw [zx] at ky zy
    have hbb := below_new1 Vy (.cells #[.int .i64 l1, .int .i64 l2, .int .i64 l3, .int .i64 h1, .int .i64 h2, .int .i64 h3] 25)
    replace kx := Lib.hid (kx.out.keep hbb)
    replace ky := Lib.hid (ky.out.keep hbb)
    have zb : (Vy.alloc (.cells #[.int .i64 l1, .int .i64 l2, .int .i64 l3, .int .i64 h1, .int .i64 h2, .int .i64 h3] 25)).heap.size = Vy.heap.size + 1 := by simp
    replace HB := Lib.hid (HB.out.trans (hbb.mono HB.out.size))
    have kb := Lib.hid (Lok.new Vy 25 #[.int .i64 l1, .int .i64 l2, .int .i64 l3, .int .i64 h1, .int .i64 h2, .int .i64 h3])
    clear hbb
    generalize Vy.alloc (.cells #[.int .i64 l1, .int .i64 l2, .int .i64 l3, .int .i64 h1, .int .i64 h2, .int .i64 h3] 25) = Vb at *
    rw [zy] at kb
    clear zx zy zb
    have x0 := kx.out.cell (i := 0) rfl
    have x1 := kx.out.cell (i := 1) rfl
    have x2 := kx.out.cell (i := 2) rfl
    have y0 := ky.out.cell (i := 0) rfl
    have y1 := ky.out.cell (i := 1) rfl
    have y2 := ky.out.cell (i := 2) rfl
    go_wp2_with fail
    clear x0 x1 x2 y0 y1 y2
    have hbr := below_new1 Vb (.cells #[.int .i64 a1, .int .i64 a2, .int .i64 a3, .int .i64 c1, .int .i64 c2, .int .i64 c3] 23)
    replace kx := Lib.hid (kx.out.keep hbr)
    replace ky := Lib.hid (ky.out.keep hbr)
    replace kb := Lib.hid (kb.out.keep hbr)
    have zr : (Vb.alloc (.cells #[.int .i64 a1, .int .i64 a2, .int .i64 a3, .int .i64 c1, .int .i64 c2, .int .i64 c3] 23)).heap.size = Vb.heap.size + 1 := by simp
    replace HB := Lib.hid (HB.out.trans (hbr.mono HB.out.size))
    have kr := Lib.hid (Lok.new Vb 23 #[.int .i64 a1, .int .i64 a2, .int .i64 a3, .int .i64 c1, .int .i64 c2, .int .i64 c3])
    clear hbr
    generalize Vb.alloc (.cells #[.int .i64 a1, .int .i64 a2, .int .i64 a3, .int .i64 c1, .int .i64 c2, .int .i64 c3] 23) = Vr at *
    clear zr
    generalize Vb.heap.size = gr at *
    (((with_reducible refine (O.out _ _ _ kr.out).mono ?_); rintro e w1 ⟨rfl, hb1⟩); replace HB := Lib.hid (HB.out.trans (hb1.mono HB.out.size)); clear hb1)
    clear kr kx ky kb
    go_wp2
    go_ret2
    exact ⟨rfl, HB.out.alloc HB.out.size _⟩
  | true =>
    rw [Bool.true_and]
    simp only [vF_yes, show rE true = 0 from rfl] at O
    have S := Lib.hid (fun W => slis_any l1 l2 l3 h1 h2 h3 W)
    cases hr : bxR l1 l2 l3 h1 h2 h3 with
    | false =>
      rw [hr] at S
      rw [Bool.false_and, show meE true false = 1 from rfl]
      clear ht hr
      generalize min a1 c1 = u0 at *
      generalize max a1 c1 = v0 at *
      generalize min a2 c2 = u1 at *
      generalize max a2 c2 = v1 at *
      generalize min a3 c3 = u2 at *
      generalize max a3 c3 = v2 at *
      go_enter Try.func12, Try.ntmps12
      go_upto_region 1 with fail
      have hbx := below_new1 w (.cells #[.int .i64 a1, .int .i64 a2, .int .i64 a3] 23)
      have zx : (w.alloc (.cells #[.int .i64 a1, .int .i64 a2, .int .i64 a3] 23)).heap.size = w.heap.size + 1 := by simp
      have HB := Lib.hid hbx
      have kx := Lib.hid (Lok.new w 23 #[.int .i64 a1, .int .i64 a2, .int .i64 a3])
      clear hbx
      generalize w.alloc (.cells #[.int .i64 a1, .int .i64 a2, .int .i64 a3] 23) = Vx at *
      have hby := below_new1 Vx (.cells #[.int .i64 c1, .int .i64 c2, .int .i64 c3] 23)
      replace kx := Lib.hid (kx.out.keep hby)
      have zy : (Vx.alloc (.cells #[.int .i64 c1, .int .i64 c2, .int .i64 c3] 23)).heap.size = Vx.heap.size + 1 := by simp
      replace HB := Lib.hid (HB.out.trans (hby.mono HB.out.size))
      have ky := Lib.hid (Lok.new Vx 23 #[.int .i64 c1, .int .i64 c2, .int .i64 c3])
      clear hby
      generalize Vx.alloc (.cells #[.int .i64 c1, .int .i64 c2, .int .i64 c3] 23) = Vy at *
      rw [zx] at ky zy
      have hbb := below_new1 Vy (.cells #[.int .i64 l1, .int .i64 l2, .int .i64 l3, .int .i64 h1, .int .i64 h2, .int .i64 h3] 25)
      replace kx := Lib.hid (kx.out.keep hbb)
      replace ky := Lib.hid (ky.out.keep hbb)
      have zb : (Vy.alloc (.cells #[.int .i64 l1, .int .i64 l2, .int .i64 l3, .int .i64 h1, .int .i64 h2, .int .i64 h3] 25)).heap.size = Vy.heap.size + 1 := by simp
      replace HB := Lib.hid (HB.out.trans (hbb.mono HB.out.size))
      have kb := Lib.hid (Lok.new Vy 25 #[.int .i64 l1, .int .i64 l2, .int .i64 l3, .int .i64 h1, .int .i64 h2, .int .i64 h3])
      clear hbb
      generalize Vy.alloc (.cells #[.int .i64 l1, .int .i64 l2, .int .i64 l3, .int .i64 h1, .int .i64 h2, .int .i64 h3] 25) = Vb at *
      rw [zy] at kb
      clear zx zy zb
      have x0 := kx.out.cell (i := 0) rfl
      have x1 := kx.out.cell (i := 1) rfl
      have x2 := kx.out.cell (i := 2) rfl
      have y0 := ky.out.cell (i := 0) rfl
      have y1 := ky.out.cell (i := 1) rfl
      have y2 := ky.out.cell (i := 2) rfl
      go_wp2_with fail
      clear x0 x1 x2 y0 y1 y2
      have hbr := below_new1 Vb (.cells #[.int .i64 a1, .int .i64 a2, .int .i64 a3, .int .i64 c1, .int .i64 c2, .int .i64 c3] 23)
      replace kx := Lib.hid (kx.out.keep hbr)
      replace ky := Lib.hid (ky.out.keep hbr)
      replace kb := Lib.hid (kb.out.keep hbr)
      have zr : (Vb.alloc (.cells #[.int .i64 a1, .int .i64 a2, .int .i64 a3, .int .i64 c1, .int .i64 c2, .int .i64 c3] 23)).heap.size = Vb.heap.size + 1 := by simp
      replace HB := Lib.hid (HB.out.trans (hbr.mono HB.out.size))
      have kr := Lib.hid (Lok.new Vb 23 #[.int .i64 a1, .int .i64 a2, .int .i64 a3, .int .i64 c1, .int .i64 c2, .int .i64 c3])
      clear hbr
      generalize Vb.alloc (.cells #[.int .i64 a1, .int .i64 a2, .int .i64 a3, .int .i64 c1, .int .i64 c2, .int .i64 c3] 23) = Vr at *
      clear zr
      generalize Vb.heap.size = gr at *
      (((with_reducible refine (O.out _ _ _ kr.out).mono ?_); rintro e w1 ⟨rfl, hb1⟩); replace HB := Lib.hid (HB.out.trans (hb1.mono HB.out.size)); replace kx := Lib.hid (kx.out.keep hb1); replace ky := Lib.hid (ky.out.keep hb1); replace kb := Lib.hid (kb.out.keep hb1); clear hb1)
      clear kr O
      go_upto_region 2 with fail
      have hbo := below_new1 w1 (.cells #[.int .i64 u0, .int .i64 u1, .int .i64 u2, .int .i64 v0, .int .i64 v1, .int .i64 v2] 25)
      replace kx := Lib.hid (kx.out.keep hbo)
      replace ky := Lib.hid (ky.out.keep hbo)
      replace kb := Lib.hid (kb.out.keep hbo)
      have zo : (w1.alloc (.cells #[.int .i64 u0, .int .i64 u1, .int .i64 u2, .int .i64 v0, .int .i64 v1, .int .i64 v2] 25)).heap.size = w1.heap.size + 1 := by simp
      replace HB := Lib.hid (HB.out.trans (hbo.mono HB.out.size))
      have ko := Lib.hid (Lok.new w1 25 #[.int .i64 u0, .int .i64 u1, .int .i64 u2, .int .i64 v0, .int .i64 v1, .int .i64 v2])
      clear hbo
      generalize w1.alloc (.cells #[.int .i64 u0, .int .i64 u1, .int .i64 u2, .int .i64 v0, .int .i64 v1, .int .i64 v2] 25) = Vo at *
      clear zo
      generalize w1.heap.size = go at *
      have b0 := kb.out.cell (i := 0) rfl
      have b1 := kb.out.cell (i := 1) rfl
      have b2 := kb.out.cell (i := 2) rfl
      have b3 := kb.out.cell (i := 3) rfl
      have b4 := kb.out.cell (i := 4) rfl
      have b5 := kb.out.cell (i := 5) rfl
      go_wp2_with fail
      clear b0 b1 b2 b3 b4 b5
      (((with_reducible refine (S.out _).mono ?_); rintro e w2 ⟨rfl, hb2⟩); replace HB := Lib.hid (HB.out.trans (hb2.mono HB.out.size)); replace kx := Lib.hid (kx.out.keep hb2); replace ky := Lib.hid (ky.out.keep hb2); replace kb := Lib.hid (kb.out.keep hb2); replace ko := Lib.hid (ko.out.keep hb2); clear hb2)
      clear S
      clear kx ky kb ko
      go_wp2
      go_ret2
      exact ⟨rfl, HB.out⟩
    | true =>
      rw [Bool.true_and, show meE true true = 0 from rfl]
      rw [hr] at S
      have hs := (Bool.and_eq_true _ _).mp ht
      obtain ⟨⟨sl, sh⟩, -⟩ := bxR_iff.1 hr
      have HM : Hid (meP a1 a2 a3 c1 c2 c3 l1 l2 l3 h1 h2 h3 = ((le3 (min a1 c1) (min a2 c2) (min a3 c3) h1 h2 h3 && le3 l1 l2 l3 (max a1 c1) (max a2 c2) (max a3 c3)) && tgB (pt a1 a2 a3) (pt c1 c2 c3) (pt l1 l2 l3) (pt h1 h2 h3))) := Lib.hid rfl
      rw [HM.out]
      have HMT := Lib.hid (fun k => (wa_fr (pt_sm hs.1 k) (pt_sm hs.2 k) (pt_sm sl k) (pt_sm sh k)).1)
      have HML := Lib.hid (fun k => (wa_fr (pt_sm hs.1 k) (pt_sm hs.2 k) (pt_sm sl k) (pt_sm sh k)).2)
      have SA := Lib.hid (And.intro hs (And.intro sl sh))
      have R1 := Lib.hid (fun g T W h => rising_2 (min a1 c1) (min a2 c2) (min a3 c3) h1 h2 h3 g T W h)
      have R2 := Lib.hid (fun g T W h => rising_2 l1 l2 l3 (max a1 c1) (max a2 c2) (max a3 c3) g T W h)
      generalize he1 : le3 (min a1 c1) (min a2 c2) (min a3 c3) h1 h2 h3 = e1 at *
      generalize he2 : le3 l1 l2 l3 (max a1 c1) (max a2 c2) (max a3 c3) = e2 at *
      clear ht hr hs sl sh HM he1 he2
      generalize min a1 c1 = u0 at *
      generalize max a1 c1 = v0 at *
      generalize min a2 c2 = u1 at *
      generalize max a2 c2 = v1 at *
      generalize min a3 c3 = u2 at *
      generalize max a3 c3 = v2 at *
      cases e1 with
      | false =>
        rw [Bool.false_and, Bool.false_and]
        go_enter Try.func12, Try.ntmps12
        go_upto_region 1 with fail
        have hbx := below_new1 w (.cells #[.int .i64 a1, .int .i64 a2, .int .i64 a3] 23)
        have zx : (w.alloc (.cells #[.int .i64 a1, .int .i64 a2, .int .i64 a3] 23)).heap.size = w.heap.size + 1 := by simp
        have HB := Lib.hid hbx
        have kx := Lib.hid (Lok.new w 23 #[.int .i64 a1, .int .i64 a2, .int .i64 a3])
        clear hbx
        generalize w.alloc (.cells #[.int .i64 a1, .int .i64 a2, .int .i64 a3] 23) = Vx at *
        have hby := below_new1 Vx (.cells #[.int .i64 c1, .int .i64 c2, .int .i64 c3] 23)
        replace kx := Lib.hid (kx.out.keep hby)
        have zy : (Vx.alloc (.cells #[.int .i64 c1, .int .i64 c2, .int .i64 c3] 23)).heap.size = Vx.heap.size + 1 := by simp
        replace HB := Lib.hid (HB.out.trans (hby.mono HB.out.size))
        have ky := Lib.hid (Lok.new Vx 23 #[.int .i64 c1, .int .i64 c2, .int .i64 c3])
        clear hby
        generalize Vx.alloc (.cells #[.int .i64 c1, .int .i64 c2, .int .i64 c3] 23) = Vy at *
        rw [zx] at ky zy
        have hbb := below_new1 Vy (.cells #[.int .i64 l1, .int .i64 l2, .int .i64 l3, .int .i64 h1, .int .i64 h2, .int .i64 h3] 25)
        replace kx := Lib.hid (kx.out.keep hbb)
        replace ky := Lib.hid (ky.out.keep hbb)
        have zb : (Vy.alloc (.cells #[.int .i64 l1, .int .i64 l2, .int .i64 l3, .int .i64 h1, .int .i64 h2, .int .i64 h3] 25)).heap.size = Vy.heap.size + 1 := by simp
        replace HB := Lib.hid (HB.out.trans (hbb.mono HB.out.size))
        have kb := Lib.hid (Lok.new Vy 25 #[.int .i64 l1, .int .i64 l2, .int .i64 l3, .int .i64 h1, .int .i64 h2, .int .i64 h3])
        clear hbb
        generalize Vy.alloc (.cells #[.int .i64 l1, .int .i64 l2, .int .i64 l3, .int .i64 h1, .int .i64 h2, .int .i64 h3] 25) = Vb at *
        rw [zy] at kb
        clear zx zy zb
        have x0 := kx.out.cell (i := 0) rfl
        have x1 := kx.out.cell (i := 1) rfl
        have x2 := kx.out.cell (i := 2) rfl
        have y0 := ky.out.cell (i := 0) rfl
        have y1 := ky.out.cell (i := 1) rfl
        have y2 := ky.out.cell (i := 2) rfl
        go_wp2_with fail
        clear x0 x1 x2 y0 y1 y2
        have hbr := below_new1 Vb (.cells #[.int .i64 a1, .int .i64 a2, .int .i64 a3, .int .i64 c1, .int .i64 c2, .int .i64 c3] 23)
        replace kx := Lib.hid (kx.out.keep hbr)
        replace ky := Lib.hid (ky.out.keep hbr)
        replace kb := Lib.hid (kb.out.keep hbr)
        have zr : (Vb.alloc (.cells #[.int .i64 a1, .int .i64 a2, .int .i64 a3, .int .i64 c1, .int .i64 c2, .int .i64 c3] 23)).heap.size = Vb.heap.size + 1 := by simp
        replace HB := Lib.hid (HB.out.trans (hbr.mono HB.out.size))
        have kr := Lib.hid (Lok.new Vb 23 #[.int .i64 a1, .int .i64 a2, .int .i64 a3, .int .i64 c1, .int .i64 c2, .int .i64 c3])
        clear hbr
        generalize Vb.alloc (.cells #[.int .i64 a1, .int .i64 a2, .int .i64 a3, .int .i64 c1, .int .i64 c2, .int .i64 c3] 23) = Vr at *
        clear zr
        generalize Vb.heap.size = gr at *
        (((with_reducible refine (O.out _ _ _ kr.out).mono ?_); rintro e w1 ⟨rfl, hb1⟩); replace HB := Lib.hid (HB.out.trans (hb1.mono HB.out.size)); replace kx := Lib.hid (kx.out.keep hb1); replace ky := Lib.hid (ky.out.keep hb1); replace kb := Lib.hid (kb.out.keep hb1); clear hb1)
        clear kr O
        go_upto_region 2 with fail
        have hbo := below_new1 w1 (.cells #[.int .i64 u0, .int .i64 u1, .int .i64 u2, .int .i64 v0, .int .i64 v1, .int .i64 v2] 25)
        replace kx := Lib.hid (kx.out.keep hbo)
        replace ky := Lib.hid (ky.out.keep hbo)
        replace kb := Lib.hid (kb.out.keep hbo)
        have zo : (w1.alloc (.cells #[.int .i64 u0, .int .i64 u1, .int .i64 u2, .int .i64 v0, .int .i64 v1, .int .i64 v2] 25)).heap.size = w1.heap.size + 1 := by simp
        replace HB := Lib.hid (HB.out.trans (hbo.mono HB.out.size))
        have ko := Lib.hid (Lok.new w1 25 #[.int .i64 u0, .int .i64 u1, .int .i64 u2, .int .i64 v0, .int .i64 v1, .int .i64 v2])
        clear hbo
        generalize w1.alloc (.cells #[.int .i64 u0, .int .i64 u1, .int .i64 u2, .int .i64 v0, .int .i64 v1, .int .i64 v2] 25) = Vo at *
        clear zo
        generalize w1.heap.size = go at *
        have b0 := kb.out.cell (i := 0) rfl
        have b1 := kb.out.cell (i := 1) rfl
        have b2 := kb.out.cell (i := 2) rfl
        have b3 := kb.out.cell (i := 3) rfl
        have b4 := kb.out.cell (i := 4) rfl
        have b5 := kb.out.cell (i := 5) rfl
        go_wp2_with fail
        clear b0 b1 b2 b3 b4 b5
        (((with_reducible refine (S.out _).mono ?_); rintro e w2 ⟨rfl, hb2⟩); replace HB := Lib.hid (HB.out.trans (hb2.mono HB.out.size)); replace kx := Lib.hid (kx.out.keep hb2); replace ky := Lib.hid (ky.out.keep hb2); replace kb := Lib.hid (kb.out.keep hb2); replace ko := Lib.hid (ko.out.keep hb2); clear hb2)
        clear S
        have o0 := ko.out.cell (i := 0) rfl
        have o1 := ko.out.cell (i := 1) rfl
        have o2 := ko.out.cell (i := 2) rfl
        have o3 := ko.out.cell (i := 3) rfl
        have o4 := ko.out.cell (i := 4) rfl
        have o5 := ko.out.cell (i := 5) rfl
        have b0 := kb.out.cell (i := 0) rfl
        have b1 := kb.out.cell (i := 1) rfl
        have b2 := kb.out.cell (i := 2) rfl
        have b3 := kb.out.cell (i := 3) rfl
        have b4 := kb.out.cell (i := 4) rfl
        have b5 := kb.out.cell (i := 5) rfl
        go_wp2_with fail
        clear o0 o1 o2 o3 o4 o5 b0 b1 b2 b3 b4 b5
        have hbq := below_new1 w2 (.cells #[.int .i64 u0, .int .i64 u1, .int .i64 u2, .int .i64 h1, .int .i64 h2, .int .i64 h3] 23)
        replace kx := Lib.hid (kx.out.keep hbq)
        replace ky := Lib.hid (ky.out.keep hbq)
        replace kb := Lib.hid (kb.out.keep hbq)
        replace ko := Lib.hid (ko.out.keep hbq)
        have zq : (w2.alloc (.cells #[.int .i64 u0, .int .i64 u1, .int .i64 u2, .int .i64 h1, .int .i64 h2, .int .i64 h3] 23)).heap.size = w2.heap.size + 1 := by simp
        replace HB := Lib.hid (HB.out.trans (hbq.mono HB.out.size))
        have kq := Lib.hid (Lok.new w2 23 #[.int .i64 u0, .int .i64 u1, .int .i64 u2, .int .i64 h1, .int .i64 h2, .int .i64 h3])
        clear hbq
        generalize w2.alloc (.cells #[.int .i64 u0, .int .i64 u1, .int .i64 u2, .int .i64 h1, .int .i64 h2, .int .i64 h3] 23) = Vq at *
        clear zq
        generalize w2.heap.size = gq at *
        (((with_reducible refine (R1.out _ _ _ kq.out).mono ?_); rintro e w3 ⟨rfl, hb3⟩); replace HB := Lib.hid (HB.out.trans (hb3.mono HB.out.size)); replace kx := Lib.hid (kx.out.keep hb3); replace ky := Lib.hid (ky.out.keep hb3); replace kb := Lib.hid (kb.out.keep hb3); replace ko := Lib.hid (ko.out.keep hb3); clear hb3)
        clear kq R1
        clear kx ky kb ko
        go_wp2
        go_ret2
        exact ⟨rfl, HB.out⟩
      | true =>
        rw [Bool.true_and]
        cases e2 with
        | false =>
          rw [Bool.false_and]
          go_enter Try.func12, Try.ntmps12
          go_upto_region 1 with fail
          have hbx := below_new1 w (.cells #[.int .i64 a1, .int .i64 a2, .int .i64 a3] 23)
          have zx : (w.alloc (.cells #[.int .i64 a1, .int .i64 a2, .int .i64 a3] 23)).heap.size = w.heap.size + 1 := by simp
          have HB := Lib.hid hbx
          have kx := Lib.hid (Lok.new w 23 #[.int .i64 a1, .int .i64 a2, .int .i64 a3])
          clear hbx
          generalize w.alloc (.cells #[.int .i64 a1, .int .i64 a2, .int .i64 a3] 23) = Vx at *
          have hby := below_new1 Vx (.cells #[.int .i64 c1, .int .i64 c2, .int .i64 c3] 23)
          replace kx := Lib.hid (kx.out.keep hby)
          have zy : (Vx.alloc (.cells #[.int .i64 c1, .int .i64 c2, .int .i64 c3] 23)).heap.size = Vx.heap.size + 1 := by simp
          replace HB := Lib.hid (HB.out.trans (hby.mono HB.out.size))
          have ky := Lib.hid (Lok.new Vx 23 #[.int .i64 c1, .int .i64 c2, .int .i64 c3])
          clear hby
          generalize Vx.alloc (.cells #[.int .i64 c1, .int .i64 c2, .int .i64 c3] 23) = Vy at *
          rw [zx] at ky zy
          have hbb := below_new1 Vy (.cells #[.int .i64 l1, .int .i64 l2, .int .i64 l3, .int .i64 h1, .int .i64 h2, .int .i64 h3] 25)
          replace kx := Lib.hid (kx.out.keep hbb)
          replace ky := Lib.hid (ky.out.keep hbb)
          have zb : (Vy.alloc (.cells #[.int .i64 l1, .int .i64 l2, .int .i64 l3, .int .i64 h1, .int .i64 h2, .int .i64 h3] 25)).heap.size = Vy.heap.size + 1 := by simp
          replace HB := Lib.hid (HB.out.trans (hbb.mono HB.out.size))
          have kb := Lib.hid (Lok.new Vy 25 #[.int .i64 l1, .int .i64 l2, .int .i64 l3, .int .i64 h1, .int .i64 h2, .int .i64 h3])
          clear hbb
          generalize Vy.alloc (.cells #[.int .i64 l1, .int .i64 l2, .int .i64 l3, .int .i64 h1, .int .i64 h2, .int .i64 h3] 25) = Vb at *
          rw [zy] at kb
          clear zx zy zb
          have x0 := kx.out.cell (i := 0) rfl
          have x1 := kx.out.cell (i := 1) rfl
          have x2 := kx.out.cell (i := 2) rfl
          have y0 := ky.out.cell (i := 0) rfl
          have y1 := ky.out.cell (i := 1) rfl
          have y2 := ky.out.cell (i := 2) rfl
          go_wp2_with fail
          clear x0 x1 x2 y0 y1 y2
          have hbr := below_new1 Vb (.cells #[.int .i64 a1, .int .i64 a2, .int .i64 a3, .int .i64 c1, .int .i64 c2, .int .i64 c3] 23)
          replace kx := Lib.hid (kx.out.keep hbr)
          replace ky := Lib.hid (ky.out.keep hbr)
          replace kb := Lib.hid (kb.out.keep hbr)
          have zr : (Vb.alloc (.cells #[.int .i64 a1, .int .i64 a2, .int .i64 a3, .int .i64 c1, .int .i64 c2, .int .i64 c3] 23)).heap.size = Vb.heap.size + 1 := by simp
          replace HB := Lib.hid (HB.out.trans (hbr.mono HB.out.size))
          have kr := Lib.hid (Lok.new Vb 23 #[.int .i64 a1, .int .i64 a2, .int .i64 a3, .int .i64 c1, .int .i64 c2, .int .i64 c3])
          clear hbr
          generalize Vb.alloc (.cells #[.int .i64 a1, .int .i64 a2, .int .i64 a3, .int .i64 c1, .int .i64 c2, .int .i64 c3] 23) = Vr at *
          clear zr
          generalize Vb.heap.size = gr at *
          (((with_reducible refine (O.out _ _ _ kr.out).mono ?_); rintro e w1 ⟨rfl, hb1⟩); replace HB := Lib.hid (HB.out.trans (hb1.mono HB.out.size)); replace kx := Lib.hid (kx.out.keep hb1); replace ky := Lib.hid (ky.out.keep hb1); replace kb := Lib.hid (kb.out.keep hb1); clear hb1)
          clear kr O
          go_upto_region 2 with fail
          have hbo := below_new1 w1 (.cells #[.int .i64 u0, .int .i64 u1, .int .i64 u2, .int .i64 v0, .int .i64 v1, .int .i64 v2] 25)
          replace kx := Lib.hid (kx.out.keep hbo)
          replace ky := Lib.hid (ky.out.keep hbo)
          replace kb := Lib.hid (kb.out.keep hbo)
          have zo : (w1.alloc (.cells #[.int .i64 u0, .int .i64 u1, .int .i64 u2, .int .i64 v0, .int .i64 v1, .int .i64 v2] 25)).heap.size = w1.heap.size + 1 := by simp
          replace HB := Lib.hid (HB.out.trans (hbo.mono HB.out.size))
          have ko := Lib.hid (Lok.new w1 25 #[.int .i64 u0, .int .i64 u1, .int .i64 u2, .int .i64 v0, .int .i64 v1, .int .i64 v2])
          clear hbo
          generalize w1.alloc (.cells #[.int .i64 u0, .int .i64 u1, .int .i64 u2, .int .i64 v0, .int .i64 v1, .int .i64 v2] 25) = Vo at *
          clear zo
          generalize w1.heap.size = go at *
          have b0 := kb.out.cell (i := 0) rfl
          have b1 := kb.out.cell (i := 1) rfl
          have b2 := kb.out.cell (i := 2) rfl
          have b3 := kb.out.cell (i := 3) rfl
          have b4 := kb.out.cell (i := 4) rfl
          have b5 := kb.out.cell (i := 5) rfl
          go_wp2_with fail
          clear b0 b1 b2 b3 b4 b5
          (((with_reducible refine (S.out _).mono ?_); rintro e w2 ⟨rfl, hb2⟩); replace HB := Lib.hid (HB.out.trans (hb2.mono HB.out.size)); replace kx := Lib.hid (kx.out.keep hb2); replace ky := Lib.hid (ky.out.keep hb2); replace kb := Lib.hid (kb.out.keep hb2); replace ko := Lib.hid (ko.out.keep hb2); clear hb2)
          clear S
          have o0 := ko.out.cell (i := 0) rfl
          have o1 := ko.out.cell (i := 1) rfl
          have o2 := ko.out.cell (i := 2) rfl
          have o3 := ko.out.cell (i := 3) rfl
          have o4 := ko.out.cell (i := 4) rfl
          have o5 := ko.out.cell (i := 5) rfl
          have b0 := kb.out.cell (i := 0) rfl
          have b1 := kb.out.cell (i := 1) rfl
          have b2 := kb.out.cell (i := 2) rfl
          have b3 := kb.out.cell (i := 3) rfl
          have b4 := kb.out.cell (i := 4) rfl
          have b5 := kb.out.cell (i := 5) rfl
          go_wp2_with fail
          clear o0 o1 o2 o3 o4 o5 b0 b1 b2 b3 b4 b5
          have hbq := below_new1 w2 (.cells #[.int .i64 u0, .int .i64 u1, .int .i64 u2, .int .i64 h1, .int .i64 h2, .int .i64 h3] 23)
          replace kx := Lib.hid (kx.out.keep hbq)
          replace ky := Lib.hid (ky.out.keep hbq)
          replace kb := Lib.hid (kb.out.keep hbq)
          replace ko := Lib.hid (ko.out.keep hbq)
          have zq : (w2.alloc (.cells #[.int .i64 u0, .int .i64 u1, .int .i64 u2, .int .i64 h1, .int .i64 h2, .int .i64 h3] 23)).heap.size = w2.heap.size + 1 := by simp
          replace HB := Lib.hid (HB.out.trans (hbq.mono HB.out.size))
          have kq := Lib.hid (Lok.new w2 23 #[.int .i64 u0, .int .i64 u1, .int .i64 u2, .int .i64 h1, .int .i64 h2, .int .i64 h3])
          clear hbq
          generalize w2.alloc (.cells #[.int .i64 u0, .int .i64 u1, .int .i64 u2, .int .i64 h1, .int .i64 h2, .int .i64 h3] 23) = Vq at *
          clear zq
          generalize w2.heap.size = gq at *
          (((with_reducible refine (R1.out _ _ _ kq.out).mono ?_); rintro e w3 ⟨rfl, hb3⟩); replace HB := Lib.hid (HB.out.trans (hb3.mono HB.out.size)); replace kx := Lib.hid (kx.out.keep hb3); replace ky := Lib.hid (ky.out.keep hb3); replace kb := Lib.hid (kb.out.keep hb3); replace ko := Lib.hid (ko.out.keep hb3); clear hb3)
          clear kq R1
          have o0 := ko.out.cell (i := 0) rfl
          have o1 := ko.out.cell (i := 1) rfl
          have o2 := ko.out.cell (i := 2) rfl
          have o3 := ko.out.cell (i := 3) rfl
          have o4 := ko.out.cell (i := 4) rfl
          have o5 := ko.out.cell (i := 5) rfl
          have b0 := kb.out.cell (i := 0) rfl
          have b1 := kb.out.cell (i := 1) rfl
          have b2 := kb.out.cell (i := 2) rfl
          have b3 := kb.out.cell (i := 3) rfl
          have b4 := kb.out.cell (i := 4) rfl
          have b5 := kb.out.cell (i := 5) rfl
          go_wp2_with fail
          clear o0 o1 o2 o3 o4 o5 b0 b1 b2 b3 b4 b5
          have hbs := below_new1 w3 (.cells #[.int .i64 l1, .int .i64 l2, .int .i64 l3, .int .i64 v0, .int .i64 v1, .int .i64 v2] 23)
          replace kx := Lib.hid (kx.out.keep hbs)
          replace ky := Lib.hid (ky.out.keep hbs)
          replace kb := Lib.hid (kb.out.keep hbs)
          replace ko := Lib.hid (ko.out.keep hbs)
          have zs : (w3.alloc (.cells #[.int .i64 l1, .int .i64 l2, .int .i64 l3, .int .i64 v0, .int .i64 v1, .int .i64 v2] 23)).heap.size = w3.heap.size + 1 := by simp
          replace HB := Lib.hid (HB.out.trans (hbs.mono HB.out.size))
          have ks := Lib.hid (Lok.new w3 23 #[.int .i64 l1, .int .i64 l2, .int .i64 l3, .int .i64 v0, .int .i64 v1, .int .i64 v2])
          clear hbs
          generalize w3.alloc (.cells #[.int .i64 l1, .int .i64 l2, .int .i64 l3, .int .i64 v0, .int .i64 v1, .int .i64 v2] 23) = Vs at *
          clear zs
          generalize w3.heap.size = gs at *
          (((with_reducible refine (R2.out _ _ _ ks.out).mono ?_); rintro e w4 ⟨rfl, hb4⟩); replace HB := Lib.hid (HB.out.trans (hb4.mono HB.out.size)); replace kx := Lib.hid (kx.out.keep hb4); replace ky := Lib.hid (ky.out.keep hb4); replace kb := Lib.hid (kb.out.keep hb4); replace ko := Lib.hid (ko.out.keep hb4); clear hb4)
          clear ks R2
          clear kx ky kb ko
          go_wp2
          go_ret2
          exact ⟨rfl, HB.out⟩
        | true =>
          rw [Bool.true_and]
          have ST := Lib.hid (fun W => stay_any a1 a2 a3 c1 c2 c3 l1 l2 l3 h1 h2 h3 W)
          go_enter Try.func12, Try.ntmps12
          go_upto_region 1 with fail
          have hbx := below_new1 w (.cells #[.int .i64 a1, .int .i64 a2, .int .i64 a3] 23)
          have zx : (w.alloc (.cells #[.int .i64 a1, .int .i64 a2, .int .i64 a3] 23)).heap.size = w.heap.size + 1 := by simp
          have HB := Lib.hid hbx
          have kx := Lib.hid (Lok.new w 23 #[.int .i64 a1, .int .i64 a2, .int .i64 a3])
          clear hbx
          generalize w.alloc (.cells #[.int .i64 a1, .int .i64 a2, .int .i64 a3] 23) = Vx at *
          have hby := below_new1 Vx (.cells #[.int .i64 c1, .int .i64 c2, .int .i64 c3] 23)
          replace kx := Lib.hid (kx.out.keep hby)
          have zy : (Vx.alloc (.cells #[.int .i64 c1, .int .i64 c2, .int .i64 c3] 23)).heap.size = Vx.heap.size + 1 := by simp
          replace HB := Lib.hid (HB.out.trans (hby.mono HB.out.size))
          have ky := Lib.hid (Lok.new Vx 23 #[.int .i64 c1, .int .i64 c2, .int .i64 c3])
          clear hby
          generalize Vx.alloc (.cells #[.int .i64 c1, .int .i64 c2, .int .i64 c3] 23) = Vy at *
          rw [zx] at ky zy
          have hbb := below_new1 Vy (.cells #[.int .i64 l1, .int .i64 l2, .int .i64 l3, .int .i64 h1, .int .i64 h2, .int .i64 h3] 25)
          replace kx := Lib.hid (kx.out.keep hbb)
          replace ky := Lib.hid (ky.out.keep hbb)
          have zb : (Vy.alloc (.cells #[.int .i64 l1, .int .i64 l2, .int .i64 l3, .int .i64 h1, .int .i64 h2, .int .i64 h3] 25)).heap.size = Vy.heap.size + 1 := by simp
          replace HB := Lib.hid (HB.out.trans (hbb.mono HB.out.size))
          have kb := Lib.hid (Lok.new Vy 25 #[.int .i64 l1, .int .i64 l2, .int .i64 l3, .int .i64 h1, .int .i64 h2, .int .i64 h3])
          clear hbb
          generalize Vy.alloc (.cells #[.int .i64 l1, .int .i64 l2, .int .i64 l3, .int .i64 h1, .int .i64 h2, .int .i64 h3] 25) = Vb at *
          rw [zy] at kb
          clear zx zy zb
          have x0 := kx.out.cell (i := 0) rfl
          have x1 := kx.out.cell (i := 1) rfl
          have x2 := kx.out.cell (i := 2) rfl
          have y0 := ky.out.cell (i := 0) rfl
          have y1 := ky.out.cell (i := 1) rfl
          have y2 := ky.out.cell (i := 2) rfl
          go_wp2_with fail
          clear x0 x1 x2 y0 y1 y2
          have hbr := below_new1 Vb (.cells #[.int .i64 a1, .int .i64 a2, .int .i64 a3, .int .i64 c1, .int .i64 c2, .int .i64 c3] 23)
          replace kx := Lib.hid (kx.out.keep hbr)
          replace ky := Lib.hid (ky.out.keep hbr)
          replace kb := Lib.hid (kb.out.keep hbr)
          have zr : (Vb.alloc (.cells #[.int .i64 a1, .int .i64 a2, .int .i64 a3, .int .i64 c1, .int .i64 c2, .int .i64 c3] 23)).heap.size = Vb.heap.size + 1 := by simp
          replace HB := Lib.hid (HB.out.trans (hbr.mono HB.out.size))
          have kr := Lib.hid (Lok.new Vb 23 #[.int .i64 a1, .int .i64 a2, .int .i64 a3, .int .i64 c1, .int .i64 c2, .int .i64 c3])
          clear hbr
          generalize Vb.alloc (.cells #[.int .i64 a1, .int .i64 a2, .int .i64 a3, .int .i64 c1, .int .i64 c2, .int .i64 c3] 23) = Vr at *
          clear zr
          generalize Vb.heap.size = gr at *
          (((with_reducible refine (O.out _ _ _ kr.out).mono ?_); rintro e w1 ⟨rfl, hb1⟩); replace HB := Lib.hid (HB.out.trans (hb1.mono HB.out.size)); replace kx := Lib.hid (kx.out.keep hb1); replace ky := Lib.hid (ky.out.keep hb1); replace kb := Lib.hid (kb.out.keep hb1); clear hb1)
          clear kr O
          go_upto_region 2 with fail
          have hbo := below_new1 w1 (.cells #[.int .i64 u0, .int .i64 u1, .int .i64 u2, .int .i64 v0, .int .i64 v1, .int .i64 v2] 25)
          replace kx := Lib.hid (kx.out.keep hbo)
          replace ky := Lib.hid (ky.out.keep hbo)
          replace kb := Lib.hid (kb.out.keep hbo)
          have zo : (w1.alloc (.cells #[.int .i64 u0, .int .i64 u1, .int .i64 u2, .int .i64 v0, .int .i64 v1, .int .i64 v2] 25)).heap.size = w1.heap.size + 1 := by simp
          replace HB := Lib.hid (HB.out.trans (hbo.mono HB.out.size))
          have ko := Lib.hid (Lok.new w1 25 #[.int .i64 u0, .int .i64 u1, .int .i64 u2, .int .i64 v0, .int .i64 v1, .int .i64 v2])
          clear hbo
          generalize w1.alloc (.cells #[.int .i64 u0, .int .i64 u1, .int .i64 u2, .int .i64 v0, .int .i64 v1, .int .i64 v2] 25) = Vo at *
          clear zo
          generalize w1.heap.size = go at *
          have b0 := kb.out.cell (i := 0) rfl
          have b1 := kb.out.cell (i := 1) rfl
          have b2 := kb.out.cell (i := 2) rfl
          have b3 := kb.out.cell (i := 3) rfl
          have b4 := kb.out.cell (i := 4) rfl
          have b5 := kb.out.cell (i := 5) rfl
          go_wp2_with fail
          clear b0 b1 b2 b3 b4 b5
          (((with_reducible refine (S.out _).mono ?_); rintro e w2 ⟨rfl, hb2⟩); replace HB := Lib.hid (HB.out.trans (hb2.mono HB.out.size)); replace kx := Lib.hid (kx.out.keep hb2); replace ky := Lib.hid (ky.out.keep hb2); replace kb := Lib.hid (kb.out.keep hb2); replace ko := Lib.hid (ko.out.keep hb2); clear hb2)
          clear S
          have o0 := ko.out.cell (i := 0) rfl
          have o1 := ko.out.cell (i := 1) rfl
          have o2 := ko.out.cell (i := 2) rfl
          have o3 := ko.out.cell (i := 3) rfl
          have o4 := ko.out.cell (i := 4) rfl
          have o5 := ko.out.cell (i := 5) rfl
          have b0 := kb.out.cell (i := 0) rfl
          have b1 := kb.out.cell (i := 1) rfl
          have b2 := kb.out.cell (i := 2) rfl
          have b3 := kb.out.cell (i := 3) rfl
          have b4 := kb.out.cell (i := 4) rfl
          have b5 := kb.out.cell (i := 5) rfl
          go_wp2_with fail
          clear o0 o1 o2 o3 o4 o5 b0 b1 b2 b3 b4 b5
          have hbq := below_new1 w2 (.cells #[.int .i64 u0, .int .i64 u1, .int .i64 u2, .int .i64 h1, .int .i64 h2, .int .i64 h3] 23)
          replace kx := Lib.hid (kx.out.keep hbq)
          replace ky := Lib.hid (ky.out.keep hbq)
          replace kb := Lib.hid (kb.out.keep hbq)
          replace ko := Lib.hid (ko.out.keep hbq)
          have zq : (w2.alloc (.cells #[.int .i64 u0, .int .i64 u1, .int .i64 u2, .int .i64 h1, .int .i64 h2, .int .i64 h3] 23)).heap.size = w2.heap.size + 1 := by simp
          replace HB := Lib.hid (HB.out.trans (hbq.mono HB.out.size))
          have kq := Lib.hid (Lok.new w2 23 #[.int .i64 u0, .int .i64 u1, .int .i64 u2, .int .i64 h1, .int .i64 h2, .int .i64 h3])
          clear hbq
          generalize w2.alloc (.cells #[.int .i64 u0, .int .i64 u1, .int .i64 u2, .int .i64 h1, .int .i64 h2, .int .i64 h3] 23) = Vq at *
          clear zq
          generalize w2.heap.size = gq at *
          (((with_reducible refine (R1.out _ _ _ kq.out).mono ?_); rintro e w3 ⟨rfl, hb3⟩); replace HB := Lib.hid (HB.out.trans (hb3.mono HB.out.size)); replace kx := Lib.hid (kx.out.keep hb3); replace ky := Lib.hid (ky.out.keep hb3); replace kb := Lib.hid (kb.out.keep hb3); replace ko := Lib.hid (ko.out.keep hb3); clear hb3)
          clear kq R1
          have o0 := ko.out.cell (i := 0) rfl
          have o1 := ko.out.cell (i := 1) rfl
          have o2 := ko.out.cell (i := 2) rfl
          have o3 := ko.out.cell (i := 3) rfl
          have o4 := ko.out.cell (i := 4) rfl
          have o5 := ko.out.cell (i := 5) rfl
          have b0 := kb.out.cell (i := 0) rfl
          have b1 := kb.out.cell (i := 1) rfl
          have b2 := kb.out.cell (i := 2) rfl
          have b3 := kb.out.cell (i := 3) rfl
          have b4 := kb.out.cell (i := 4) rfl
          have b5 := kb.out.cell (i := 5) rfl
          go_wp2_with fail
          clear o0 o1 o2 o3 o4 o5 b0 b1 b2 b3 b4 b5
          have hbs := below_new1 w3 (.cells #[.int .i64 l1, .int .i64 l2, .int .i64 l3, .int .i64 v0, .int .i64 v1, .int .i64 v2] 23)
          replace kx := Lib.hid (kx.out.keep hbs)
          replace ky := Lib.hid (ky.out.keep hbs)
          replace kb := Lib.hid (kb.out.keep hbs)
          replace ko := Lib.hid (ko.out.keep hbs)
          have zs : (w3.alloc (.cells #[.int .i64 l1, .int .i64 l2, .int .i64 l3, .int .i64 v0, .int .i64 v1, .int .i64 v2] 23)).heap.size = w3.heap.size + 1 := by simp
          replace HB := Lib.hid (HB.out.trans (hbs.mono HB.out.size))
          have ks := Lib.hid (Lok.new w3 23 #[.int .i64 l1, .int .i64 l2, .int .i64 l3, .int .i64 v0, .int .i64 v1, .int .i64 v2])
          clear hbs
          generalize w3.alloc (.cells #[.int .i64 l1, .int .i64 l2, .int .i64 l3, .int .i64 v0, .int .i64 v1, .int .i64 v2] 23) = Vs at *
          clear zs
          generalize w3.heap.size = gs at *
          (((with_reducible refine (R2.out _ _ _ ks.out).mono ?_); rintro e w4 ⟨rfl, hb4⟩); replace HB := Lib.hid (HB.out.trans (hb4.mono HB.out.size)); replace kx := Lib.hid (kx.out.keep hb4); replace ky := Lib.hid (ky.out.keep hb4); replace kb := Lib.hid (kb.out.keep hb4); replace ko := Lib.hid (ko.out.keep hb4); clear hb4)
          clear ks R2
          have x0 := kx.out.cell (i := 0) rfl
          have x1 := kx.out.cell (i := 1) rfl
          have x2 := kx.out.cell (i := 2) rfl
          have y0 := ky.out.cell (i := 0) rfl
          have y1 := ky.out.cell (i := 1) rfl
          have y2 := ky.out.cell (i := 2) rfl
          have b0 := kb.out.cell (i := 0) rfl
          have b1 := kb.out.cell (i := 1) rfl
          have b2 := kb.out.cell (i := 2) rfl
          have b3 := kb.out.cell (i := 3) rfl
          have b4 := kb.out.cell (i := 4) rfl
          have b5 := kb.out.cell (i := 5) rfl
          go_wp2_with fail
          clear x0 x1 x2 y0 y1 y2 b0 b1 b2 b3 b4 b5
          ((with_reducible refine (ST.out _).mono ?_); rintro e w5 ⟨⟨ga, gc, gl, gh, rfl, ja, jc, jl, jh⟩, hb5⟩)
          replace HB := Lib.hid (HB.out.trans (hb5.mono HB.out.size))
          have HC := Lib.hid (fun (k : Nat) (W : World) (hk : k < 3) (q : Below w5.heap.size w5 W) => stay1_any a1 a2 a3 c1 c2 c3 l1 l2 l3 h1 h2 h3 SA.out.1.1 SA.out.1.2 SA.out.2.1 SA.out.2.2 k hk ga gc gl gh W (ja.keep q) (jc.keep q) (jl.keep q) (jh.keep q))
          clear hb5 ja jc jl jh kx ky kb ko ST
          go_wp2_with fail
          (((with_reducible refine (together_any (pt a1 a2 a3) (pt c1 c2 c3) (pt l1 l2 l3) (pt h1 h2 h3) HMT.out HML.out _ _ _ _ _ HC).mono ?_); rintro e w6 ⟨rfl, hb6⟩); replace HB := Lib.hid (HB.out.trans (hb6.mono HB.out.size)); clear hb6)
          go_wp2
          go_ret2
          exact ⟨rfl, HB.out⟩
end Go.Proofs.Ytfghjfgdjlkooaa
