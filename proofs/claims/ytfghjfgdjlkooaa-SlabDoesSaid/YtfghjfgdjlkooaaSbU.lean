/-
  The reference limewashref13: Meets. (gen/SbU.py)
-/
import Derived.Test.YtfghjfgdjlkooaaSbT
namespace Go.Proofs.Ytfghjfgdjlkooaa
open Go.RowKit

theorem bounds_k (a c l h : Nat → Int) (ha : ∀ k, SM 16384 (a k)) (hc : ∀ k, SM 16384 (c k)) (hl : ∀ k, SM 16384 (l k)) (hh : ∀ k, SM 16384 (h k)) (k : Nat) (w : World) :
    Calls Try.prog 30 #[.int .i64 (a k), .int .i64 (c k), .int .i64 (l k), .int .i64 (h k), .agg #[.int .i64 ((enN a c l h k).1), .int .i64 ((enN a c l h k).2)], .agg #[.int .i64 ((lvN a c l h k).1), .int .i64 ((lvN a c l h k).2)]] w fun e' w' => e' = .returned (.tuple #[.agg #[.int .i64 ((enN a c l h (k + 1)).1), .int .i64 ((enN a c l h (k + 1)).2)], .agg #[.int .i64 ((lvN a c l h (k + 1)).1), .int .i64 ((lvN a c l h (k + 1)).2)], .bool (xaB (a k) (c k) (l k) (h k))]) ∧ Below w.heap.size w w' :=
  bounds_any (a k) (c k) (l k) (h k) _ _ _ _ (ha k) (hc k) (hl k) (hh k) (en_fr (fun j => (wa_fr (ha j) (hc j) (hl j) (hh j)).1) k) (lv_fr (fun j => (wa_fr (ha j) (hc j) (hl j) (hh j)).2) k) (en_nn a c l h k) (lv_le a c l h k) w
set_option maxRecDepth 100000 in
set_option maxHeartbeats 16000000 in
theorem rmeets_any (a1 a2 a3 c1 c2 c3 l1 l2 l3 h1 h2 h3 : Int) (t : Bool) (ht : (s3 a1 a2 a3 && s3 c1 c2 c3) = t) (w : World) :
    Calls Try.prog 13 #[.agg #[.int .i64 a1, .int .i64 a2, .int .i64 a3], .agg #[.int .i64 c1, .int .i64 c2, .int .i64 c3], .agg #[.int .i64 l1, .int .i64 l2, .int .i64 l3, .int .i64 h1, .int .i64 h2, .int .i64 h3]] w fun e' w' => e' = .returned (.tuple #[.bool (t && (bxR l1 l2 l3 h1 h2 h3 && meP a1 a2 a3 c1 c2 c3 l1 l2 l3 h1 h2 h3)), .int .i64 (meE t (bxR l1 l2 l3 h1 h2 h3))]) ∧ Below w.heap.size w w' := by
  have HB := Lib.hid (Below.refl w.heap.size w)
  have S1 := Lib.hid (fun W => rsmall3_any a1 a2 a3 W)
  have S2 := Lib.hid (fun W => rsmall3_any c1 c2 c3 W)
  have S3 := Lib.hid (fun W => rslis_any l1 l2 l3 h1 h2 h3 W)
  subst ht
  cases h1' : s3 a1 a2 a3 with
  | false =>
    rw [h1'] at S1
    rw [Bool.false_and, Bool.false_and, show ∀ r, meE false r = 5 from fun _ => rfl]
    clear h1' S2 S3
    go_enter Try.func13, Try.ntmps13
    go_upto_region 1 with fail
    have hbx := below_new1 w (.cells #[.int .i64 a1, .int .i64 a2, .int .i64 a3] 23)
    have zx : (w.alloc (.cells #[.int .i64 a1, .int .i64 a2, .int .i64 a3] 23)).heap.size = w.heap.size + 1 := by simp
    have HB := Lib.hid hbx
    have kx := Lib.hid (Lok.new w 23 #[.int .i64 a1, .int .i64 a2, .int .i64 a3])
    clear hbx
    generalize w.alloc (.cells #[.int .i64 a1, .int .i64 a2, .int .i64 a3] 23) = Vx at *
    have hby := below_new1 Vx (.cells #[.int .i64 c1, .int .i64 c2, .int .i64 c3] 23)
    replace kx := Lib.hid (kx.out.keep hby)
    have zy : (Vx.alloc (.cells #[.int .i64 c1, .int .i64 c2, .int .i64 c3] 23)).heap.size = Vx.heap.size + 1 := by simp
    replace HB := Lib.hid (HB.out.trans (hby.mono HB.out.size))
    have ky := Lib.hid (Lok.new Vx 23 #[.int .i64 c1, .int .i64 c2, .int .i64 c3])
    clear hby
    generalize Vx.alloc (.cells #[.int .i64 c1, .int .i64 c2, .int .i64 c3] 23) = Vy at *
    rw [zx] at ky zy
    have hbb := below_new1 Vy (.cells #[.int .i64 l1, .int .i64 l2, .int .i64 l3, .int .i64 h1, .int .i64 h2, .int .i64 h3] 25)
    replace kx := Lib.hid (kx.out.keep hbb)
    replace ky := Lib.hid (ky.out.keep hbb)
    have zb : (Vy.alloc (.cells #[.int .i64 l1, .int .i64 l2, .int .i64 l3, .int .i64 h1, .int .i64 h2, .int .i64 h3] 25)).heap.size = Vy.heap.size + 1 := by simp
    replace HB := Lib.hid (HB.out.trans (hbb.mono HB.out.size))
    have kb := Lib.hid (Lok.new Vy 25 #[.int .i64 l1, .int .i64 l2, .int .i64 l3, .int .i64 h1, .int .i64 h2, .int .i64 h3])
    clear hbb
    generalize Vy.alloc (.cells #[.int .i64 l1, .int .i64 l2, .int .i64 l3, .int .i64 h1, .int .i64 h2, .int .i64 h3] 25) = Vb at *
    rw [zy] at kb
    clear zx zy zb
    have x0 := kx.out.cell (i := 0) rfl
    have x1 := kx.out.cell (i := 1) rfl
    have x2 := kx.out.cell (i := 2) rfl
    go_wp2_with fail
    clear x0 x1 x2
    (((with_reducible refine (S1.out _).mono ?_); rintro e w1 ⟨rfl, hb1⟩); replace HB := Lib.hid (HB.out.trans (hb1.mono HB.out.size)); replace kx := Lib.hid (kx.out.keep hb1); replace ky := Lib.hid (ky.out.keep hb1); replace kb := Lib.hid (kb.out.keep hb1); clear hb1)
    clear S1
    clear kx ky kb
    go_wp2
    go_ret2
    exact ⟨rfl, HB.out⟩
  | true =>
    cases h2' : s3 c1 c2 c3 with
    | false =>
      rw [h1'] at S1
      rw [h2'] at S2
      rw [Bool.true_and, Bool.false_and, show ∀ r, meE false r = 5 from fun _ => rfl]
      clear h1' h2' S3
      go_enter Try.func13, Try.ntmps13
      go_upto_region 1 with fail
      have hbx := below_new1 w (.cells #[.int .i64 a1, .int .i64 a2, .int .i64 a3] 23)
      have zx : (w.alloc (.cells #[.int .i64 a1, .int .i64 a2, .int .i64 a3] 23)).heap.size = w.heap.size + 1 := by simp
      have HB := Lib.hid hbx
      have kx := Lib.hid (Lok.new w 23 #[.int .i64 a1, .int .i64 a2, .int .i64 a3])
      clear hbx
      generalize w.alloc (.cells #[.int .i64 a1, .int .i64 a2, .int .i64 a3] 23) = Vx at *
      have hby := below_new1 Vx (.cells #[.int .i64 c1, .int .i64 c2, .int .i64 c3] 23)
      replace kx := Lib.hid (kx.out.keep hby)
      have zy : (Vx.alloc (.cells #[.int .i64 c1, .int .i64 c2, .int .i64 c3] 23)).heap.size = Vx.heap.size + 1 := by simp
      replace HB := Lib.hid (HB.out.trans (hby.mono HB.out.size))
      have ky := Lib.hid (Lok.new Vx 23 #[.int .i64 c1, .int .i64 c2, .int .i64 c3])
      clear hby
      generalize Vx.alloc (.cells #[.int .i64 c1, .int .i64 c2, .int .i64 c3] 23) = Vy at *
      rw [zx] at ky zy
      have hbb := below_new1 Vy (.cells #[.int .i64 l1, .int .i64 l2, .int .i64 l3, .int .i64 h1, .int .i64 h2, .int .i64 h3] 25)
      replace kx := Lib.hid (kx.out.keep hbb)
      replace ky := Lib.hid (ky.out.keep hbb)
      have zb : (Vy.alloc (.cells #[.int .i64 l1, .int .i64 l2, .int .i64 l3, .int .i64 h1, .int .i64 h2, .int .i64 h3] 25)).heap.size = Vy.heap.size + 1 := by simp
      replace HB := Lib.hid (HB.out.trans (hbb.mono HB.out.size))
      have kb := Lib.hid (Lok.new Vy 25 #[.int .i64 l1, .int .i64 l2, .int .i64 l3, .int .i64 h1, .int .i64 h2, .int .i64 h3])
      clear hbb
      generalize Vy.alloc (.cells #[.int .i64 l1, .int .i64 l2, .int .i64 l3, .int .i64 h1, .int .i64 h2, .int .i64 h3] 25) = Vb at *
      rw [zy] at kb
      clear zx zy zb
      have x0 := kx.out.cell (i := 0) rfl
      have x1 := kx.out.cell (i := 1) rfl
      have x2 := kx.out.cell (i := 2) rfl
      go_wp2_with fail
      clear x0 x1 x2
      (((with_reducible refine (S1.out _).mono ?_); rintro e w1 ⟨rfl, hb1⟩); replace HB := Lib.hid (HB.out.trans (hb1.mono HB.out.size)); replace kx := Lib.hid (kx.out.keep hb1); replace ky := Lib.hid (ky.out.keep hb1); replace kb := Lib.hid (kb.out.keep hb1); clear hb1)
      clear S1
      have y0 := ky.out.cell (i := 0) rfl
      have y1 := ky.out.cell (i := 1) rfl
      have y2 := ky.out.cell (i := 2) rfl
      go_wp2_with fail
      clear y0 y1 y2
      (((with_reducible refine (S2.out _).mono ?_); rintro e w2 ⟨rfl, hb2⟩); replace HB := Lib.hid (HB.out.trans (hb2.mono HB.out.size)); replace kx := Lib.hid (kx.out.keep hb2); replace ky := Lib.hid (ky.out.keep hb2); replace kb := Lib.hid (kb.out.keep hb2); clear hb2)
      clear S2
      clear kx ky kb
      go_wp2
      go_ret2
      exact ⟨rfl, HB.out⟩
    | true =>
      cases hr : bxR l1 l2 l3 h1 h2 h3 with
      | false =>
        rw [h1'] at S1
        rw [h2'] at S2
        rw [hr] at S3
        rw [Bool.true_and, Bool.true_and, Bool.false_and, show meE true false = 1 from rfl]
        clear h1' h2' hr
        go_enter Try.func13, Try.ntmps13
        go_upto_region 1 with fail
        have hbx := below_new1 w (.cells #[.int .i64 a1, .int .i64 a2, .int .i64 a3] 23)
        have zx : (w.alloc (.cells #[.int .i64 a1, .int .i64 a2, .int .i64 a3] 23)).heap.size = w.heap.size + 1 := by simp
        have HB := Lib.hid hbx
        have kx := Lib.hid (Lok.new w 23 #[.int .i64 a1, .int .i64 a2, .int .i64 a3])
        clear hbx
        generalize w.alloc (.cells #[.int .i64 a1, .int .i64 a2, .int .i64 a3] 23) = Vx at *
        have hby := below_new1 Vx (.cells #[.int .i64 c1, .int .i64 c2, .int .i64 c3] 23)
        replace kx := Lib.hid (kx.out.keep hby)
        have zy : (Vx.alloc (.cells #[.int .i64 c1, .int .i64 c2, .int .i64 c3] 23)).heap.size = Vx.heap.size + 1 := by simp
        replace HB := Lib.hid (HB.out.trans (hby.mono HB.out.size))
        have ky := Lib.hid (Lok.new Vx 23 #[.int .i64 c1, .int .i64 c2, .int .i64 c3])
        clear hby
        generalize Vx.alloc (.cells #[.int .i64 c1, .int .i64 c2, .int .i64 c3] 23) = Vy at *
        rw [zx] at ky zy
        have hbb := below_new1 Vy (.cells #[.int .i64 l1, .int .i64 l2, .int .i64 l3, .int .i64 h1, .int .i64 h2, .int .i64 h3] 25)
        replace kx := Lib.hid (kx.out.keep hbb)
        replace ky := Lib.hid (ky.out.keep hbb)
        have zb : (Vy.alloc (.cells #[.int .i64 l1, .int .i64 l2, .int .i64 l3, .int .i64 h1, .int .i64 h2, .int .i64 h3] 25)).heap.size = Vy.heap.size + 1 := by simp
        replace HB := Lib.hid (HB.out.trans (hbb.mono HB.out.size))
        have kb := Lib.hid (Lok.new Vy 25 #[.int .i64 l1, .int .i64 l2, .int .i64 l3, .int .i64 h1, .int .i64 h2, .int .i64 h3])
        clear hbb
        generalize Vy.alloc (.cells #[.int .i64 l1, .int .i64 l2, .int .i64 l3, .int .i64 h1, .int .i64 h2, .int .i64 h3] 25) = Vb at *
        rw [zy] at kb
        clear zx zy zb
        have x0 := kx.out.cell (i := 0) rfl
        have x1 := kx.out.cell (i := 1) rfl
        have x2 := kx.out.cell (i := 2) rfl
        go_wp2_with fail
        clear x0 x1 x2
        (((with_reducible refine (S1.out _).mono ?_); rintro e w1 ⟨rfl, hb1⟩); replace HB := Lib.hid (HB.out.trans (hb1.mono HB.out.size)); replace kx := Lib.hid (kx.out.keep hb1); replace ky := Lib.hid (ky.out.keep hb1); replace kb := Lib.hid (kb.out.keep hb1); clear hb1)
        clear S1
        have y0 := ky.out.cell (i := 0) rfl
        have y1 := ky.out.cell (i := 1) rfl
        have y2 := ky.out.cell (i := 2) rfl
        go_wp2_with fail
        clear y0 y1 y2
        (((with_reducible refine (S2.out _).mono ?_); rintro e w2 ⟨rfl, hb2⟩); replace HB := Lib.hid (HB.out.trans (hb2.mono HB.out.size)); replace kx := Lib.hid (kx.out.keep hb2); replace ky := Lib.hid (ky.out.keep hb2); replace kb := Lib.hid (kb.out.keep hb2); clear hb2)
        clear S2
        have b0 := kb.out.cell (i := 0) rfl
        have b1 := kb.out.cell (i := 1) rfl
        have b2 := kb.out.cell (i := 2) rfl
        have b3 := kb.out.cell (i := 3) rfl
        have b4 := kb.out.cell (i := 4) rfl
        have b5 := kb.out.cell (i := 5) rfl
        go_wp2_with fail
        clear b0 b1 b2 b3 b4 b5
        (((with_reducible refine (S3.out _).mono ?_); rintro e w3 ⟨rfl, hb3⟩); replace HB := Lib.hid (HB.out.trans (hb3.mono HB.out.size)); replace kx := Lib.hid (kx.out.keep hb3); replace ky := Lib.hid (ky.out.keep hb3); replace kb := Lib.hid (kb.out.keep hb3); clear hb3)
        clear S3
        clear kx ky kb
        go_wp2
        go_ret2
        exact ⟨rfl, HB.out⟩
      | true =>
        rw [h1'] at S1
        rw [h2'] at S2
        rw [hr] at S3
        rw [Bool.true_and, Bool.true_and, Bool.true_and, show meE true true = 0 from rfl]
        obtain ⟨⟨sl, sh⟩, -⟩ := bxR_iff.1 hr
        have B1 : Hid (∀ W, Calls Try.prog 30 #[.int .i64 a1, .int .i64 c1, .int .i64 l1, .int .i64 h1, .agg #[.int .i64 0, .int .i64 1], .agg #[.int .i64 1, .int .i64 1]] W fun e' w' => e' = .returned (.tuple #[.agg #[.int .i64 ((enN (pt a1 a2 a3) (pt c1 c2 c3) (pt l1 l2 l3) (pt h1 h2 h3) 1).1), .int .i64 ((enN (pt a1 a2 a3) (pt c1 c2 c3) (pt l1 l2 l3) (pt h1 h2 h3) 1).2)], .agg #[.int .i64 ((lvN (pt a1 a2 a3) (pt c1 c2 c3) (pt l1 l2 l3) (pt h1 h2 h3) 1).1), .int .i64 ((lvN (pt a1 a2 a3) (pt c1 c2 c3) (pt l1 l2 l3) (pt h1 h2 h3) 1).2)], .bool (xaB a1 c1 l1 h1)]) ∧ Below W.heap.size W w') := Lib.hid (fun W => bounds_k (pt a1 a2 a3) (pt c1 c2 c3) (pt l1 l2 l3) (pt h1 h2 h3) (pt_sm h1') (pt_sm h2') (pt_sm sl) (pt_sm sh) 0 W)
        have B2 : Hid (∀ W, Calls Try.prog 30 #[.int .i64 a2, .int .i64 c2, .int .i64 l2, .int .i64 h2, .agg #[.int .i64 ((enN (pt a1 a2 a3) (pt c1 c2 c3) (pt l1 l2 l3) (pt h1 h2 h3) 1).1), .int .i64 ((enN (pt a1 a2 a3) (pt c1 c2 c3) (pt l1 l2 l3) (pt h1 h2 h3) 1).2)], .agg #[.int .i64 ((lvN (pt a1 a2 a3) (pt c1 c2 c3) (pt l1 l2 l3) (pt h1 h2 h3) 1).1), .int .i64 ((lvN (pt a1 a2 a3) (pt c1 c2 c3) (pt l1 l2 l3) (pt h1 h2 h3) 1).2)]] W fun e' w' => e' = .returned (.tuple #[.agg #[.int .i64 ((enN (pt a1 a2 a3) (pt c1 c2 c3) (pt l1 l2 l3) (pt h1 h2 h3) 2).1), .int .i64 ((enN (pt a1 a2 a3) (pt c1 c2 c3) (pt l1 l2 l3) (pt h1 h2 h3) 2).2)], .agg #[.int .i64 ((lvN (pt a1 a2 a3) (pt c1 c2 c3) (pt l1 l2 l3) (pt h1 h2 h3) 2).1), .int .i64 ((lvN (pt a1 a2 a3) (pt c1 c2 c3) (pt l1 l2 l3) (pt h1 h2 h3) 2).2)], .bool (xaB a2 c2 l2 h2)]) ∧ Below W.heap.size W w') := Lib.hid (fun W => bounds_k (pt a1 a2 a3) (pt c1 c2 c3) (pt l1 l2 l3) (pt h1 h2 h3) (pt_sm h1') (pt_sm h2') (pt_sm sl) (pt_sm sh) 1 W)
        have B3 : Hid (∀ W, Calls Try.prog 30 #[.int .i64 a3, .int .i64 c3, .int .i64 l3, .int .i64 h3, .agg #[.int .i64 ((enN (pt a1 a2 a3) (pt c1 c2 c3) (pt l1 l2 l3) (pt h1 h2 h3) 2).1), .int .i64 ((enN (pt a1 a2 a3) (pt c1 c2 c3) (pt l1 l2 l3) (pt h1 h2 h3) 2).2)], .agg #[.int .i64 ((lvN (pt a1 a2 a3) (pt c1 c2 c3) (pt l1 l2 l3) (pt h1 h2 h3) 2).1), .int .i64 ((lvN (pt a1 a2 a3) (pt c1 c2 c3) (pt l1 l2 l3) (pt h1 h2 h3) 2).2)]] W fun e' w' => e' = .returned (.tuple #[.agg #[.int .i64 ((enN (pt a1 a2 a3) (pt c1 c2 c3) (pt l1 l2 l3) (pt h1 h2 h3) 3).1), .int .i64 ((enN (pt a1 a2 a3) (pt c1 c2 c3) (pt l1 l2 l3) (pt h1 h2 h3) 3).2)], .agg #[.int .i64 ((lvN (pt a1 a2 a3) (pt c1 c2 c3) (pt l1 l2 l3) (pt h1 h2 h3) 3).1), .int .i64 ((lvN (pt a1 a2 a3) (pt c1 c2 c3) (pt l1 l2 l3) (pt h1 h2 h3) 3).2)], .bool (xaB a3 c3 l3 h3)]) ∧ Below W.heap.size W w') := Lib.hid (fun W => bounds_k (pt a1 a2 a3) (pt c1 c2 c3) (pt l1 l2 l3) (pt h1 h2 h3) (pt_sm h1') (pt_sm h2') (pt_sm sl) (pt_sm sh) 2 W)
        have HM : meP a1 a2 a3 c1 c2 c3 l1 l2 l3 h1 h2 h3 = ((xaB a1 c1 l1 h1 && (xaB a2 c2 l2 h2 && xaB a3 c3 l3 h3)) && tgB (pt a1 a2 a3) (pt c1 c2 c3) (pt l1 l2 l3) (pt h1 h2 h3)) := (mtR_eq (pt a1 a2 a3) (pt c1 c2 c3) (pt l1 l2 l3) (pt h1 h2 h3)).symm
        rw [HM]
        unfold tgB
        have FW := fun j => wa_fr (pt_sm h1' j) (pt_sm h2' j) (pt_sm sl j) (pt_sm sh j)
        have CE : Hid (decide (cmpF (enN (pt a1 a2 a3) (pt c1 c2 c3) (pt l1 l2 l3) (pt h1 h2 h3) 3).1 (enN (pt a1 a2 a3) (pt c1 c2 c3) (pt l1 l2 l3) (pt h1 h2 h3) 3).2 (lvN (pt a1 a2 a3) (pt c1 c2 c3) (pt l1 l2 l3) (pt h1 h2 h3) 3).1 (lvN (pt a1 a2 a3) (pt c1 c2 c3) (pt l1 l2 l3) (pt h1 h2 h3) 3).2 ≤ 0) = decide ((enN (pt a1 a2 a3) (pt c1 c2 c3) (pt l1 l2 l3) (pt h1 h2 h3) 3).1 * (lvN (pt a1 a2 a3) (pt c1 c2 c3) (pt l1 l2 l3) (pt h1 h2 h3) 3).2 ≤ (lvN (pt a1 a2 a3) (pt c1 c2 c3) (pt l1 l2 l3) (pt h1 h2 h3) 3).1 * (enN (pt a1 a2 a3) (pt c1 c2 c3) (pt l1 l2 l3) (pt h1 h2 h3) 3).2)) := Lib.hid (decide_eq_decide.2 (cmpF_le (en_fr (fun j => (FW j).1) 3) (lv_fr (fun j => (FW j).2) 3)))
        have C1 := Lib.hid (fun W => rcmp_any (enN (pt a1 a2 a3) (pt c1 c2 c3) (pt l1 l2 l3) (pt h1 h2 h3) 3).1 (enN (pt a1 a2 a3) (pt c1 c2 c3) (pt l1 l2 l3) (pt h1 h2 h3) 3).2 (lvN (pt a1 a2 a3) (pt c1 c2 c3) (pt l1 l2 l3) (pt h1 h2 h3) 3).1 (lvN (pt a1 a2 a3) (pt c1 c2 c3) (pt l1 l2 l3) (pt h1 h2 h3) 3).2 W)
        rw [← CE.out]
        clear CE FW HM h1' h2' hr sl sh
        generalize cmpF (enN (pt a1 a2 a3) (pt c1 c2 c3) (pt l1 l2 l3) (pt h1 h2 h3) 3).1 (enN (pt a1 a2 a3) (pt c1 c2 c3) (pt l1 l2 l3) (pt h1 h2 h3) 3).2 (lvN (pt a1 a2 a3) (pt c1 c2 c3) (pt l1 l2 l3) (pt h1 h2 h3) 3).1 (lvN (pt a1 a2 a3) (pt c1 c2 c3) (pt l1 l2 l3) (pt h1 h2 h3) 3).2 = z at *
        generalize (enN (pt a1 a2 a3) (pt c1 c2 c3) (pt l1 l2 l3) (pt h1 h2 h3) 1).1 = e11 at *
        generalize (enN (pt a1 a2 a3) (pt c1 c2 c3) (pt l1 l2 l3) (pt h1 h2 h3) 1).2 = e12 at *
        generalize (lvN (pt a1 a2 a3) (pt c1 c2 c3) (pt l1 l2 l3) (pt h1 h2 h3) 1).1 = v11 at *
        generalize (lvN (pt a1 a2 a3) (pt c1 c2 c3) (pt l1 l2 l3) (pt h1 h2 h3) 1).2 = v12 at *
        generalize (enN (pt a1 a2 a3) (pt c1 c2 c3) (pt l1 l2 l3) (pt h1 h2 h3) 2).1 = e21 at *
        generalize (enN (pt a1 a2 a3) (pt c1 c2 c3) (pt l1 l2 l3) (pt h1 h2 h3) 2).2 = e22 at *
        generalize (lvN (pt a1 a2 a3) (pt c1 c2 c3) (pt l1 l2 l3) (pt h1 h2 h3) 2).1 = v21 at *
        generalize (lvN (pt a1 a2 a3) (pt c1 c2 c3) (pt l1 l2 l3) (pt h1 h2 h3) 2).2 = v22 at *
        generalize (enN (pt a1 a2 a3) (pt c1 c2 c3) (pt l1 l2 l3) (pt h1 h2 h3) 3).1 = e31 at *
        generalize (enN (pt a1 a2 a3) (pt c1 c2 c3) (pt l1 l2 l3) (pt h1 h2 h3) 3).2 = e32 at *
        generalize (lvN (pt a1 a2 a3) (pt c1 c2 c3) (pt l1 l2 l3) (pt h1 h2 h3) 3).1 = v31 at *
        generalize (lvN (pt a1 a2 a3) (pt c1 c2 c3) (pt l1 l2 l3) (pt h1 h2 h3) 3).2 = v32 at *
        generalize xaB a1 c1 l1 h1 = b1 at *
        generalize xaB a2 c2 l2 h2 = b2 at *
        generalize xaB a3 c3 l3 h3 = b3 at *
        go_enter Try.func13, Try.ntmps13
        go_upto_region 1 with fail
        have hbx := below_new1 w (.cells #[.int .i64 a1, .int .i64 a2, .int .i64 a3] 23)
        have zx : (w.alloc (.cells #[.int .i64 a1, .int .i64 a2, .int .i64 a3] 23)).heap.size = w.heap.size + 1 := by simp
        have HB := Lib.hid hbx
        have kx := Lib.hid (Lok.new w 23 #[.int .i64 a1, .int .i64 a2, .int .i64 a3])
        clear hbx
        generalize w.alloc (.cells #[.int .i64 a1, .int .i64 a2, .int .i64 a3] 23) = Vx at *
        have hby := below_new1 Vx (.cells #[.int .i64 c1, .int .i64 c2, .int .i64 c3] 23)
        replace kx := Lib.hid (kx.out.keep hby)
        have zy : (Vx.alloc (.cells #[.int .i64 c1, .int .i64 c2, .int .i64 c3] 23)).heap.size = Vx.heap.size + 1 := by simp
        replace HB := Lib.hid (HB.out.trans (hby.mono HB.out.size))
        have ky := Lib.hid (Lok.new Vx 23 #[.int .i64 c1, .int .i64 c2, .int .i64 c3])
        clear hby
        generalize Vx.alloc (.cells #[.int .i64 c1, .int .i64 c2, .int .i64 c3] 23) = Vy at *
        rw [zx] at ky zy
        have hbb := below_new1 Vy (.cells #[.int .i64 l1, .int .i64 l2, .int .i64 l3, .int .i64 h1, .int .i64 h2, .int .i64 h3] 25)
        replace kx := Lib.hid (kx.out.keep hbb)
        replace ky := Lib.hid (ky.out.keep hbb)
        have zb : (Vy.alloc (.cells #[.int .i64 l1, .int .i64 l2, .int .i64 l3, .int .i64 h1, .int .i64 h2, .int .i64 h3] 25)).heap.size = Vy.heap.size + 1 := by simp
        replace HB := Lib.hid (HB.out.trans (hbb.mono HB.out.size))
        have kb := Lib.hid (Lok.new Vy 25 #[.int .i64 l1, .int .i64 l2, .int .i64 l3, .int .i64 h1, .int .i64 h2, .int .i64 h3])
        clear hbb
        generalize Vy.alloc (.cells #[.int .i64 l1, .int .i64 l2, .int .i64 l3, .int .i64 h1, .int .i64 h2, .int .i64 h3] 25) = Vb at *
        rw [zy] at kb
        clear zx zy zb
        have x0 := kx.out.cell (i := 0) rfl
        have x1 := kx.out.cell (i := 1) rfl
        have x2 := kx.out.cell (i := 2) rfl
        go_wp2_with fail
        clear x0 x1 x2
        (((with_reducible refine (S1.out _).mono ?_); rintro e w1 ⟨rfl, hb1⟩); replace HB := Lib.hid (HB.out.trans (hb1.mono HB.out.size)); replace kx := Lib.hid (kx.out.keep hb1); replace ky := Lib.hid (ky.out.keep hb1); replace kb := Lib.hid (kb.out.keep hb1); clear hb1)
        clear S1
        have y0 := ky.out.cell (i := 0) rfl
        have y1 := ky.out.cell (i := 1) rfl
        have y2 := ky.out.cell (i := 2) rfl
        go_wp2_with fail
        clear y0 y1 y2
        (((with_reducible refine (S2.out _).mono ?_); rintro e w2 ⟨rfl, hb2⟩); replace HB := Lib.hid (HB.out.trans (hb2.mono HB.out.size)); replace kx := Lib.hid (kx.out.keep hb2); replace ky := Lib.hid (ky.out.keep hb2); replace kb := Lib.hid (kb.out.keep hb2); clear hb2)
        clear S2
        have b0 := kb.out.cell (i := 0) rfl
        have b1 := kb.out.cell (i := 1) rfl
        have b2 := kb.out.cell (i := 2) rfl
        have b3 := kb.out.cell (i := 3) rfl
        have b4 := kb.out.cell (i := 4) rfl
        have b5 := kb.out.cell (i := 5) rfl
        go_wp2_with fail
        clear b0 b1 b2 b3 b4 b5
        (((with_reducible refine (S3.out _).mono ?_); rintro e w3 ⟨rfl, hb3⟩); replace HB := Lib.hid (HB.out.trans (hb3.mono HB.out.size)); replace kx := Lib.hid (kx.out.keep hb3); replace ky := Lib.hid (ky.out.keep hb3); replace kb := Lib.hid (kb.out.keep hb3); clear hb3)
        clear S3
        have x0 := kx.out.cell (i := 0) rfl
        have x1 := kx.out.cell (i := 1) rfl
        have x2 := kx.out.cell (i := 2) rfl
        have y0 := ky.out.cell (i := 0) rfl
        have y1 := ky.out.cell (i := 1) rfl
        have y2 := ky.out.cell (i := 2) rfl
        have b0 := kb.out.cell (i := 0) rfl
        have b1 := kb.out.cell (i := 1) rfl
        have b2 := kb.out.cell (i := 2) rfl
        have b3 := kb.out.cell (i := 3) rfl
        have b4 := kb.out.cell (i := 4) rfl
        have b5 := kb.out.cell (i := 5) rfl
        go_wp2_with fail
        clear x0 x1 x2 y0 y1 y2 b0 b1 b2 b3 b4 b5
        (((with_reducible refine (B1.out _).mono ?_); rintro e w4 ⟨rfl, hb4⟩); replace HB := Lib.hid (HB.out.trans (hb4.mono HB.out.size)); replace kx := Lib.hid (kx.out.keep hb4); replace ky := Lib.hid (ky.out.keep hb4); replace kb := Lib.hid (kb.out.keep hb4); clear hb4)
        clear B1
        go_upto_region 6 with fail
        have hbp := below_new1 w4 (.cells #[.int .i64 e11, .int .i64 e12] 56)
        replace kx := Lib.hid (kx.out.keep hbp)
        replace ky := Lib.hid (ky.out.keep hbp)
        replace kb := Lib.hid (kb.out.keep hbp)
        have zp : (w4.alloc (.cells #[.int .i64 e11, .int .i64 e12] 56)).heap.size = w4.heap.size + 1 := by simp
        replace HB := Lib.hid (HB.out.trans (hbp.mono HB.out.size))
        have kp := Lib.hid (Lok.new w4 56 #[.int .i64 e11, .int .i64 e12])
        clear hbp
        generalize w4.alloc (.cells #[.int .i64 e11, .int .i64 e12] 56) = Vp at *
        have hbq := below_new1 Vp (.cells #[.int .i64 v11, .int .i64 v12] 56)
        replace kx := Lib.hid (kx.out.keep hbq)
        replace ky := Lib.hid (ky.out.keep hbq)
        replace kb := Lib.hid (kb.out.keep hbq)
        replace kp := Lib.hid (kp.out.keep hbq)
        have zq : (Vp.alloc (.cells #[.int .i64 v11, .int .i64 v12] 56)).heap.size = Vp.heap.size + 1 := by simp
        replace HB := Lib.hid (HB.out.trans (hbq.mono HB.out.size))
        have kq := Lib.hid (Lok.new Vp 56 #[.int .i64 v11, .int .i64 v12])
        clear hbq
        generalize Vp.alloc (.cells #[.int .i64 v11, .int .i64 v12] 56) = Vq at *
        rw [zp] at kq
        clear zp zq
        generalize w4.heap.size = gp at *
        have x0 := kx.out.cell (i := 0) rfl
        have x1 := kx.out.cell (i := 1) rfl
        have x2 := kx.out.cell (i := 2) rfl
        have y0 := ky.out.cell (i := 0) rfl
        have y1 := ky.out.cell (i := 1) rfl
        have y2 := ky.out.cell (i := 2) rfl
        have b0 := kb.out.cell (i := 0) rfl
        have b1 := kb.out.cell (i := 1) rfl
        have b2 := kb.out.cell (i := 2) rfl
        have b3 := kb.out.cell (i := 3) rfl
        have b4 := kb.out.cell (i := 4) rfl
        have b5 := kb.out.cell (i := 5) rfl
        have p0 := kp.out.cell (i := 0) rfl
        have p1 := kp.out.cell (i := 1) rfl
        have q0 := kq.out.cell (i := 0) rfl
        have q1 := kq.out.cell (i := 1) rfl
        go_wp2_with fail
        clear x0 x1 x2 y0 y1 y2 b0 b1 b2 b3 b4 b5 p0 p1 q0 q1
        (((with_reducible refine (B2.out _).mono ?_); rintro e w5 ⟨rfl, hb5⟩); replace HB := Lib.hid (HB.out.trans (hb5.mono HB.out.size)); replace kx := Lib.hid (kx.out.keep hb5); replace ky := Lib.hid (ky.out.keep hb5); replace kb := Lib.hid (kb.out.keep hb5); replace kp := Lib.hid (kp.out.keep hb5); replace kq := Lib.hid (kq.out.keep hb5); clear hb5)
        clear B2 kp kq
        go_upto_region 7 with fail
        have hbr := below_new1 w5 (.cells #[.int .i64 e21, .int .i64 e22] 56)
        replace kx := Lib.hid (kx.out.keep hbr)
        replace ky := Lib.hid (ky.out.keep hbr)
        replace kb := Lib.hid (kb.out.keep hbr)
        have zr : (w5.alloc (.cells #[.int .i64 e21, .int .i64 e22] 56)).heap.size = w5.heap.size + 1 := by simp
        replace HB := Lib.hid (HB.out.trans (hbr.mono HB.out.size))
        have kr := Lib.hid (Lok.new w5 56 #[.int .i64 e21, .int .i64 e22])
        clear hbr
        generalize w5.alloc (.cells #[.int .i64 e21, .int .i64 e22] 56) = Vr at *
        have hbs := below_new1 Vr (.cells #[.int .i64 v21, .int .i64 v22] 56)
        replace kx := Lib.hid (kx.out.keep hbs)
        replace ky := Lib.hid (ky.out.keep hbs)
        replace kb := Lib.hid (kb.out.keep hbs)
        replace kr := Lib.hid (kr.out.keep hbs)
        have zs : (Vr.alloc (.cells #[.int .i64 v21, .int .i64 v22] 56)).heap.size = Vr.heap.size + 1 := by simp
        replace HB := Lib.hid (HB.out.trans (hbs.mono HB.out.size))
        have ks := Lib.hid (Lok.new Vr 56 #[.int .i64 v21, .int .i64 v22])
        clear hbs
        generalize Vr.alloc (.cells #[.int .i64 v21, .int .i64 v22] 56) = Vs at *
        rw [zr] at ks
        clear zr zs
        generalize w5.heap.size = gr at *
        have x0 := kx.out.cell (i := 0) rfl
        have x1 := kx.out.cell (i := 1) rfl
        have x2 := kx.out.cell (i := 2) rfl
        have y0 := ky.out.cell (i := 0) rfl
        have y1 := ky.out.cell (i := 1) rfl
        have y2 := ky.out.cell (i := 2) rfl
        have b0 := kb.out.cell (i := 0) rfl
        have b1 := kb.out.cell (i := 1) rfl
        have b2 := kb.out.cell (i := 2) rfl
        have b3 := kb.out.cell (i := 3) rfl
        have b4 := kb.out.cell (i := 4) rfl
        have b5 := kb.out.cell (i := 5) rfl
        have r0 := kr.out.cell (i := 0) rfl
        have r1 := kr.out.cell (i := 1) rfl
        have s0 := ks.out.cell (i := 0) rfl
        have s1 := ks.out.cell (i := 1) rfl
        go_wp2_with fail
        clear x0 x1 x2 y0 y1 y2 b0 b1 b2 b3 b4 b5 r0 r1 s0 s1
        (((with_reducible refine (B3.out _).mono ?_); rintro e w6 ⟨rfl, hb6⟩); replace HB := Lib.hid (HB.out.trans (hb6.mono HB.out.size)); replace kx := Lib.hid (kx.out.keep hb6); replace ky := Lib.hid (ky.out.keep hb6); replace kb := Lib.hid (kb.out.keep hb6); replace kr := Lib.hid (kr.out.keep hb6); replace ks := Lib.hid (ks.out.keep hb6); clear hb6)
        clear B3 kr ks kx ky kb
        go_upto_region 8 with fail
        have hbm := below_new1 w6 (.cells #[.int .i64 e31, .int .i64 e32] 56)
        have zm : (w6.alloc (.cells #[.int .i64 e31, .int .i64 e32] 56)).heap.size = w6.heap.size + 1 := by simp
        replace HB := Lib.hid (HB.out.trans (hbm.mono HB.out.size))
        have km := Lib.hid (Lok.new w6 56 #[.int .i64 e31, .int .i64 e32])
        clear hbm
        generalize w6.alloc (.cells #[.int .i64 e31, .int .i64 e32] 56) = Vm at *
        have hbn := below_new1 Vm (.cells #[.int .i64 v31, .int .i64 v32] 56)
        replace km := Lib.hid (km.out.keep hbn)
        have zn : (Vm.alloc (.cells #[.int .i64 v31, .int .i64 v32] 56)).heap.size = Vm.heap.size + 1 := by simp
        replace HB := Lib.hid (HB.out.trans (hbn.mono HB.out.size))
        have kn := Lib.hid (Lok.new Vm 56 #[.int .i64 v31, .int .i64 v32])
        clear hbn
        generalize Vm.alloc (.cells #[.int .i64 v31, .int .i64 v32] 56) = Vn at *
        rw [zm] at kn
        clear zm zn
        generalize w6.heap.size = gm at *
        cases b1 with
        | false =>
          go_wp2
          go_ret2
          exact ⟨by simp, HB.out⟩
        | true =>
          cases b2 with
          | false =>
            go_wp2
            go_ret2
            exact ⟨by simp, HB.out⟩
          | true =>
            cases b3 with
            | false =>
              go_wp2
              go_ret2
              exact ⟨by simp, HB.out⟩
            | true =>
              have m0 := km.out.cell (i := 0) rfl
              have m1 := km.out.cell (i := 1) rfl
              have n0 := kn.out.cell (i := 0) rfl
              have n1 := kn.out.cell (i := 1) rfl
              go_wp2_with fail
              clear m0 m1 n0 n1
              (((with_reducible refine (C1.out _).mono ?_); rintro e w7 ⟨rfl, hb7⟩); replace HB := Lib.hid (HB.out.trans (hb7.mono HB.out.size)); clear hb7)
              clear C1 km kn
              go_wp2
              go_ret2
              exact ⟨by simp, HB.out⟩
end Go.Proofs.Ytfghjfgdjlkooaa
