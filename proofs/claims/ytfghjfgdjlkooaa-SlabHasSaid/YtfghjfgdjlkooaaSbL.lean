/-
  The law SlabMeets, walked. (gen/SbL.py)
-/
import Derived.Test.YtfghjfgdjlkooaaSbH
import Derived.Test.YtfghjfgdjlkooaaSbV
namespace Go.Proofs.Ytfghjfgdjlkooaa
open Go.RowKit

theorem join_right {l1 l2 l3 h1 h2 h3 m1 m2 m3 k1 k2 k3 : Int} (p : bxR l1 l2 l3 h1 h2 h3 = true) (q : bxR m1 m2 m3 k1 k2 k3 = true) : bxR (min l1 m1) (min l2 m2) (min l3 m3) (max h1 k1) (max h2 k2) (max h3 k3) = true := by
  rw [bxR_iff, s3_iff, s3_iff] at *
  unfold SM at *
  omega
set_option maxRecDepth 100000 in
set_option maxHeartbeats 16000000 in
theorem law_meets (a1 a2 a3 c1 c2 c3 l1 l2 l3 h1 h2 h3 m1 m2 m3 k1 k2 k3 : Int) (w : World) :
    Calls Try.prog 5 #[.agg #[.int .i64 a1, .int .i64 a2, .int .i64 a3], .agg #[.int .i64 c1, .int .i64 c2, .int .i64 c3], .agg #[.int .i64 l1, .int .i64 l2, .int .i64 l3, .int .i64 h1, .int .i64 h2, .int .i64 h3], .agg #[.int .i64 m1, .int .i64 m2, .int .i64 m3, .int .i64 k1, .int .i64 k2, .int .i64 k3]] w fun e' w' => e' = .returned (.bool true) ∧ Below w.heap.size w w' := by
  have HB := Lib.hid (Below.refl w.heap.size w)
  have BD := Lib.hid (fun W => boxed_any W)
  have M1 := Lib.hid (fun W => meets_any a1 a2 a3 c1 c2 c3 l1 l2 l3 h1 h2 h3 _ rfl W)
  have M2 := Lib.hid (fun W => meets_any c1 c2 c3 a1 a2 a3 l1 l2 l3 h1 h2 h3 _ rfl W)
  rw [Bool.and_comm (s3 c1 c2 c3), meP_back a1 a2 a3 c1 c2 c3 l1 l2 l3 h1 h2 h3] at M2
  cases ht : (s3 a1 a2 a3 && s3 c1 c2 c3) with
  | false =>
    rw [ht, Bool.false_and, show ∀ r, meE false r = 5 from fun _ => rfl] at M1 M2
    clear ht
    go_enter Try.func5, Try.ntmps5
    go_upto_region 1 with fail
    have hbx := below_new1 w (.cells #[.int .i64 a1, .int .i64 a2, .int .i64 a3] 23)
    have zx : (w.alloc (.cells #[.int .i64 a1, .int .i64 a2, .int .i64 a3] 23)).heap.size = w.heap.size + 1 := by simp
    have HB := Lib.hid hbx
    have kx := Lib.hid (Lok.new w 23 #[.int .i64 a1, .int .i64 a2, .int .i64 a3])
    clear hbx
    generalize w.alloc (.cells #[.int .i64 a1, .int .i64 a2, .int .i64 a3] 23) = Vx at *
    have hby := below_new1 Vx (.cells #[.int .i64 c1, .int .i64 c2, .int .i64 c3] 23)
    replace kx := Lib.hid (kx.out.keep hby)
    have zy : (Vx.alloc (.cells #[.int .i64 c1, .int .i64 c2, .int .i64 c3] 23)).heap.size = Vx.heap.size + 1 := by simp
    replace HB := Lib.hid (HB.out.trans (hby.mono HB.out.size))
    have ky := Lib.hid (Lok.new Vx 23 #[.int .i64 c1, .int .i64 c2, .int .i64 c3])
    clear hby
    generalize Vx.alloc (.cells #[.int .i64 c1, .int .i64 c2, .int .i64 c3] 23) = Vy at *
    rw [zx] at ky zy
    have hbb := below_new1 Vy (.cells #[.int .i64 l1, .int .i64 l2, .int .i64 l3, .int .i64 h1, .int .i64 h2, .int .i64 h3] 25)
    replace kx := Lib.hid (kx.out.keep hbb)
    replace ky := Lib.hid (ky.out.keep hbb)
    have zb : (Vy.alloc (.cells #[.int .i64 l1, .int .i64 l2, .int .i64 l3, .int .i64 h1, .int .i64 h2, .int .i64 h3] 25)).heap.size = Vy.heap.size + 1 := by simp
    replace HB := Lib.hid (HB.out.trans (hbb.mono HB.out.size))
    have kb := Lib.hid (Lok.new Vy 25 #[.int .i64 l1, .int .i64 l2, .int .i64 l3, .int .i64 h1, .int .i64 h2, .int .i64 h3])
    clear hbb
    generalize Vy.alloc (.cells #[.int .i64 l1, .int .i64 l2, .int .i64 l3, .int .i64 h1, .int .i64 h2, .int .i64 h3] 25) = Vb at *
    rw [zy] at kb zb
    have hbd := below_new1 Vb (.cells #[.int .i64 m1, .int .i64 m2, .int .i64 m3, .int .i64 k1, .int .i64 k2, .int .i64 k3] 25)
    replace kx := Lib.hid (kx.out.keep hbd)
    replace ky := Lib.hid (ky.out.keep hbd)
    replace kb := Lib.hid (kb.out.keep hbd)
    have zd : (Vb.alloc (.cells #[.int .i64 m1, .int .i64 m2, .int .i64 m3, .int .i64 k1, .int .i64 k2, .int .i64 k3] 25)).heap.size = Vb.heap.size + 1 := by simp
    replace HB := Lib.hid (HB.out.trans (hbd.mono HB.out.size))
    have kd := Lib.hid (Lok.new Vb 25 #[.int .i64 m1, .int .i64 m2, .int .i64 m3, .int .i64 k1, .int .i64 k2, .int .i64 k3])
    clear hbd
    generalize Vb.alloc (.cells #[.int .i64 m1, .int .i64 m2, .int .i64 m3, .int .i64 k1, .int .i64 k2, .int .i64 k3] 25) = Vd at *
    rw [zb] at kd
    clear zx zy zb zd
    have x0 := kx.out.cell (i := 0) rfl
    have x1 := kx.out.cell (i := 1) rfl
    have x2 := kx.out.cell (i := 2) rfl
    have y0 := ky.out.cell (i := 0) rfl
    have y1 := ky.out.cell (i := 1) rfl
    have y2 := ky.out.cell (i := 2) rfl
    have b0 := kb.out.cell (i := 0) rfl
    have b1 := kb.out.cell (i := 1) rfl
    have b2 := kb.out.cell (i := 2) rfl
    have b3 := kb.out.cell (i := 3) rfl
    have b4 := kb.out.cell (i := 4) rfl
    have b5 := kb.out.cell (i := 5) rfl
    go_wp2_with fail
    clear x0 x1 x2 y0 y1 y2 b0 b1 b2 b3 b4 b5
    (((with_reducible refine (M1.out _).mono ?_); rintro e w1 ⟨rfl, hb1⟩); replace HB := Lib.hid (HB.out.trans (hb1.mono HB.out.size)); replace kx := Lib.hid (kx.out.keep hb1); replace ky := Lib.hid (ky.out.keep hb1); replace kb := Lib.hid (kb.out.keep hb1); replace kd := Lib.hid (kd.out.keep hb1); clear hb1)
    clear M1
    have x0 := kx.out.cell (i := 0) rfl
    have x1 := kx.out.cell (i := 1) rfl
    have x2 := kx.out.cell (i := 2) rfl
    have y0 := ky.out.cell (i := 0) rfl
    have y1 := ky.out.cell (i := 1) rfl
    have y2 := ky.out.cell (i := 2) rfl
    have b0 := kb.out.cell (i := 0) rfl
    have b1 := kb.out.cell (i := 1) rfl
    have b2 := kb.out.cell (i := 2) rfl
    have b3 := kb.out.cell (i := 3) rfl
    have b4 := kb.out.cell (i := 4) rfl
    have b5 := kb.out.cell (i := 5) rfl
    go_wp2_with fail
    clear x0 x1 x2 y0 y1 y2 b0 b1 b2 b3 b4 b5
    (((with_reducible refine (M2.out _).mono ?_); rintro e w2 ⟨rfl, hb2⟩); replace HB := Lib.hid (HB.out.trans (hb2.mono HB.out.size)); replace kx := Lib.hid (kx.out.keep hb2); replace ky := Lib.hid (ky.out.keep hb2); replace kb := Lib.hid (kb.out.keep hb2); replace kd := Lib.hid (kd.out.keep hb2); clear hb2)
    clear M2
    clear kx ky kb kd
    go_wp2_with fail
    (((with_reducible refine (BD.out _).mono ?_); rintro e w3 ⟨rfl, hb3⟩); replace HB := Lib.hid (HB.out.trans (hb3.mono HB.out.size)); clear hb3)
    go_wp2
    go_ret
    exact ⟨rfl, HB.out⟩
  | true =>
    cases hr : bxR l1 l2 l3 h1 h2 h3 with
    | false =>
      rw [ht, hr, Bool.true_and, Bool.false_and, show meE true false = 1 from rfl] at M1 M2
      clear ht hr
      go_enter Try.func5, Try.ntmps5
      go_upto_region 1 with fail
      have hbx := below_new1 w (.cells #[.int .i64 a1, .int .i64 a2, .int .i64 a3] 23)
      have zx : (w.alloc (.cells #[.int .i64 a1, .int .i64 a2, .int .i64 a3] 23)).heap.size = w.heap.size + 1 := by simp
      have HB := Lib.hid hbx
      have kx := Lib.hid (Lok.new w 23 #[.int .i64 a1, .int .i64 a2, .int .i64 a3])
      clear hbx
      generalize w.alloc (.cells #[.int .i64 a1, .int .i64 a2, .int .i64 a3] 23) = Vx at *
      have hby := below_new1 Vx (.cells #[.int .i64 c1, .int .i64 c2, .int .i64 c3] 23)
      replace kx := Lib.hid (kx.out.keep hby)
      have zy : (Vx.alloc (.cells #[.int .i64 c1, .int .i64 c2, .int .i64 c3] 23)).heap.size = Vx.heap.size + 1 := by simp
      replace HB := Lib.hid (HB.out.trans (hby.mono HB.out.size))
      have ky := Lib.hid (Lok.new Vx 23 #[.int .i64 c1, .int .i64 c2, .int .i64 c3])
      clear hby
      generalize Vx.alloc (.cells #[.int .i64 c1, .int .i64 c2, .int .i64 c3] 23) = Vy at *
      rw [zx] at ky zy
      have hbb := below_new1 Vy (.cells #[.int .i64 l1, .int .i64 l2, .int .i64 l3, .int .i64 h1, .int .i64 h2, .int .i64 h3] 25)
      replace kx := Lib.hid (kx.out.keep hbb)
      replace ky := Lib.hid (ky.out.keep hbb)
      have zb : (Vy.alloc (.cells #[.int .i64 l1, .int .i64 l2, .int .i64 l3, .int .i64 h1, .int .i64 h2, .int .i64 h3] 25)).heap.size = Vy.heap.size + 1 := by simp
      replace HB := Lib.hid (HB.out.trans (hbb.mono HB.out.size))
      have kb := Lib.hid (Lok.new Vy 25 #[.int .i64 l1, .int .i64 l2, .int .i64 l3, .int .i64 h1, .int .i64 h2, .int .i64 h3])
      clear hbb
      generalize Vy.alloc (.cells #[.int .i64 l1, .int .i64 l2, .int .i64 l3, .int .i64 h1, .int .i64 h2, .int .i64 h3] 25) = Vb at *
      rw [zy] at kb zb
      have hbd := below_new1 Vb (.cells #[.int .i64 m1, .int .i64 m2, .int .i64 m3, .int .i64 k1, .int .i64 k2, .int .i64 k3] 25)
      replace kx := Lib.hid (kx.out.keep hbd)
      replace ky := Lib.hid (ky.out.keep hbd)
      replace kb := Lib.hid (kb.out.keep hbd)
      have zd : (Vb.alloc (.cells #[.int .i64 m1, .int .i64 m2, .int .i64 m3, .int .i64 k1, .int .i64 k2, .int .i64 k3] 25)).heap.size = Vb.heap.size + 1 := by simp
      replace HB := Lib.hid (HB.out.trans (hbd.mono HB.out.size))
      have kd := Lib.hid (Lok.new Vb 25 #[.int .i64 m1, .int .i64 m2, .int .i64 m3, .int .i64 k1, .int .i64 k2, .int .i64 k3])
      clear hbd
      generalize Vb.alloc (.cells #[.int .i64 m1, .int .i64 m2, .int .i64 m3, .int .i64 k1, .int .i64 k2, .int .i64 k3] 25) = Vd at *
      rw [zb] at kd
      clear zx zy zb zd
      have x0 := kx.out.cell (i := 0) rfl
      have x1 := kx.out.cell (i := 1) rfl
      have x2 := kx.out.cell (i := 2) rfl
      have y0 := ky.out.cell (i := 0) rfl
      have y1 := ky.out.cell (i := 1) rfl
      have y2 := ky.out.cell (i := 2) rfl
      have b0 := kb.out.cell (i := 0) rfl
      have b1 := kb.out.cell (i := 1) rfl
      have b2 := kb.out.cell (i := 2) rfl
      have b3 := kb.out.cell (i := 3) rfl
      have b4 := kb.out.cell (i := 4) rfl
      have b5 := kb.out.cell (i := 5) rfl
      go_wp2_with fail
      clear x0 x1 x2 y0 y1 y2 b0 b1 b2 b3 b4 b5
      (((with_reducible refine (M1.out _).mono ?_); rintro e w1 ⟨rfl, hb1⟩); replace HB := Lib.hid (HB.out.trans (hb1.mono HB.out.size)); replace kx := Lib.hid (kx.out.keep hb1); replace ky := Lib.hid (ky.out.keep hb1); replace kb := Lib.hid (kb.out.keep hb1); replace kd := Lib.hid (kd.out.keep hb1); clear hb1)
      clear M1
      have x0 := kx.out.cell (i := 0) rfl
      have x1 := kx.out.cell (i := 1) rfl
      have x2 := kx.out.cell (i := 2) rfl
      have y0 := ky.out.cell (i := 0) rfl
      have y1 := ky.out.cell (i := 1) rfl
      have y2 := ky.out.cell (i := 2) rfl
      have b0 := kb.out.cell (i := 0) rfl
      have b1 := kb.out.cell (i := 1) rfl
      have b2 := kb.out.cell (i := 2) rfl
      have b3 := kb.out.cell (i := 3) rfl
      have b4 := kb.out.cell (i := 4) rfl
      have b5 := kb.out.cell (i := 5) rfl
      go_wp2_with fail
      clear x0 x1 x2 y0 y1 y2 b0 b1 b2 b3 b4 b5
      (((with_reducible refine (M2.out _).mono ?_); rintro e w2 ⟨rfl, hb2⟩); replace HB := Lib.hid (HB.out.trans (hb2.mono HB.out.size)); replace kx := Lib.hid (kx.out.keep hb2); replace ky := Lib.hid (ky.out.keep hb2); replace kb := Lib.hid (kb.out.keep hb2); replace kd := Lib.hid (kd.out.keep hb2); clear hb2)
      clear M2
      clear kx ky kb kd
      go_wp2_with fail
      (((with_reducible refine (BD.out _).mono ?_); rintro e w3 ⟨rfl, hb3⟩); replace HB := Lib.hid (HB.out.trans (hb3.mono HB.out.size)); clear hb3)
      go_wp2
      go_ret
      exact ⟨rfl, HB.out⟩
    | true =>
      rw [ht, hr, Bool.true_and, Bool.true_and, show meE true true = 0 from rfl] at M1 M2
      have H1 := Lib.hid (fun W => slhas_any l1 l2 l3 h1 h2 h3 a1 a2 a3 W)
      have H2 := Lib.hid (fun W => slhas_any l1 l2 l3 h1 h2 h3 c1 c2 c3 W)
      have JN := Lib.hid (fun W => sljoin_any l1 l2 l3 h1 h2 h3 m1 m2 m3 k1 k2 k3 W)
      rw [hr, Bool.true_and] at JN
      obtain ⟨rd, hrd⟩ : ∃ r, r = bxR m1 m2 m3 k1 k2 k3 := ⟨_, rfl⟩
      rw [← hrd] at JN
      obtain ⟨u0, eu0⟩ : ∃ u, u = vF rd (min l1 m1) := ⟨_, rfl⟩
      obtain ⟨u1, eu1⟩ : ∃ u, u = vF rd (min l2 m2) := ⟨_, rfl⟩
      obtain ⟨u2, eu2⟩ : ∃ u, u = vF rd (min l3 m3) := ⟨_, rfl⟩
      obtain ⟨v0, ev0⟩ : ∃ u, u = vF rd (max h1 k1) := ⟨_, rfl⟩
      obtain ⟨v1, ev1⟩ : ∃ u, u = vF rd (max h2 k2) := ⟨_, rfl⟩
      obtain ⟨v2, ev2⟩ : ∃ u, u = vF rd (max h3 k3) := ⟨_, rfl⟩
      rw [← eu0, ← eu1, ← eu2, ← ev0, ← ev1, ← ev2] at JN
      have hbu : rd = true → bxR u0 u1 u2 v0 v1 v2 = true := fun q => by
        subst q
        rw [eu0, eu1, eu2, ev0, ev1, ev2]
        simp only [vF_yes]
        exact join_right hr hrd.symm
      have hmu : rd = true → meP a1 a2 a3 c1 c2 c3 l1 l2 l3 h1 h2 h3 = true → meP a1 a2 a3 c1 c2 c3 u0 u1 u2 v0 v1 v2 = true := fun q m => by
        subst q
        rw [eu0, eu1, eu2, ev0, ev1, ev2]
        simp only [vF_yes]
        exact meP_more m1 m2 m3 k1 k2 k3 m
      have M3 := Lib.hid (fun W => meets_any a1 a2 a3 c1 c2 c3 u0 u1 u2 v0 v1 v2 true ht W)
      rw [Bool.true_and] at M3
      have HU : Hid (rd = true → meE true (bxR u0 u1 u2 v0 v1 v2) = 0) := Lib.hid (fun q => by rw [hbu q]; rfl)
      have HZ : Hid (rd = true → meP a1 a2 a3 c1 c2 c3 l1 l2 l3 h1 h2 h3 = true → (bxR u0 u1 u2 v0 v1 v2 && meP a1 a2 a3 c1 c2 c3 u0 u1 u2 v0 v1 v2) = true) := Lib.hid (fun q m => by rw [hbu q, hmu q m]; rfl)
      have SD := Lib.hid (fun m => meP_side (a1 := a1) (a2 := a2) (a3 := a3) (c1 := c1) (c2 := c2) (c3 := c3) (l1 := l1) (l2 := l2) (l3 := l3) (h1 := h1) (h2 := h2) (h3 := h3) m)
      have EF := Lib.hid (fun k => meP_first (a1 := a1) (a2 := a2) (a3 := a3) (l1 := l1) (l2 := l2) (l3 := l3) (h1 := h1) (h2 := h2) (h3 := h3) c1 c2 c3 k)
      have EL := Lib.hid (fun k => meP_last (c1 := c1) (c2 := c2) (c3 := c3) (l1 := l1) (l2 := l2) (l3 := l3) (h1 := h1) (h2 := h2) (h3 := h3) a1 a2 a3 k)
      generalize meP a1 a2 a3 c1 c2 c3 l1 l2 l3 h1 h2 h3 = m at *
      generalize (bxR u0 u1 u2 v0 v1 v2 && meP a1 a2 a3 c1 c2 c3 u0 u1 u2 v0 v1 v2) = z at *
      generalize meE true (bxR u0 u1 u2 v0 v1 v2) = ez at *
      generalize bxH l1 l2 l3 h1 h2 h3 a1 a2 a3 = ha at *
      generalize bxH l1 l2 l3 h1 h2 h3 c1 c2 c3 = hc at *
      clear ht hr hrd hbu hmu eu0 eu1 eu2 ev0 ev1 ev2
      cases m with
      | true =>
        obtain ⟨s1, s2⟩ := SD.out rfl
        clear SD EF EL
        cases ha with
        | true =>
          go_enter Try.func5, Try.ntmps5
          go_upto_region 1 with fail
          have hbx := below_new1 w (.cells #[.int .i64 a1, .int .i64 a2, .int .i64 a3] 23)
          have zx : (w.alloc (.cells #[.int .i64 a1, .int .i64 a2, .int .i64 a3] 23)).heap.size = w.heap.size + 1 := by simp
          have HB := Lib.hid hbx
          have kx := Lib.hid (Lok.new w 23 #[.int .i64 a1, .int .i64 a2, .int .i64 a3])
          clear hbx
          generalize w.alloc (.cells #[.int .i64 a1, .int .i64 a2, .int .i64 a3] 23) = Vx at *
          have hby := below_new1 Vx (.cells #[.int .i64 c1, .int .i64 c2, .int .i64 c3] 23)
          replace kx := Lib.hid (kx.out.keep hby)
          have zy : (Vx.alloc (.cells #[.int .i64 c1, .int .i64 c2, .int .i64 c3] 23)).heap.size = Vx.heap.size + 1 := by simp
          replace HB := Lib.hid (HB.out.trans (hby.mono HB.out.size))
          have ky := Lib.hid (Lok.new Vx 23 #[.int .i64 c1, .int .i64 c2, .int .i64 c3])
          clear hby
          generalize Vx.alloc (.cells #[.int .i64 c1, .int .i64 c2, .int .i64 c3] 23) = Vy at *
          rw [zx] at ky zy
          have hbb := below_new1 Vy (.cells #[.int .i64 l1, .int .i64 l2, .int .i64 l3, .int .i64 h1, .int .i64 h2, .int .i64 h3] 25)
          replace kx := Lib.hid (kx.out.keep hbb)
          replace ky := Lib.hid (ky.out.keep hbb)
          have zb : (Vy.alloc (.cells #[.int .i64 l1, .int .i64 l2, .int .i64 l3, .int .i64 h1, .int .i64 h2, .int .i64 h3] 25)).heap.size = Vy.heap.size + 1 := by simp
          replace HB := Lib.hid (HB.out.trans (hbb.mono HB.out.size))
          have kb := Lib.hid (Lok.new Vy 25 #[.int .i64 l1, .int .i64 l2, .int .i64 l3, .int .i64 h1, .int .i64 h2, .int .i64 h3])
          clear hbb
          generalize Vy.alloc (.cells #[.int .i64 l1, .int .i64 l2, .int .i64 l3, .int .i64 h1, .int .i64 h2, .int .i64 h3] 25) = Vb at *
          rw [zy] at kb zb
          have hbd := below_new1 Vb (.cells #[.int .i64 m1, .int .i64 m2, .int .i64 m3, .int .i64 k1, .int .i64 k2, .int .i64 k3] 25)
          replace kx := Lib.hid (kx.out.keep hbd)
          replace ky := Lib.hid (ky.out.keep hbd)
          replace kb := Lib.hid (kb.out.keep hbd)
          have zd : (Vb.alloc (.cells #[.int .i64 m1, .int .i64 m2, .int .i64 m3, .int .i64 k1, .int .i64 k2, .int .i64 k3] 25)).heap.size = Vb.heap.size + 1 := by simp
          replace HB := Lib.hid (HB.out.trans (hbd.mono HB.out.size))
          have kd := Lib.hid (Lok.new Vb 25 #[.int .i64 m1, .int .i64 m2, .int .i64 m3, .int .i64 k1, .int .i64 k2, .int .i64 k3])
          clear hbd
          generalize Vb.alloc (.cells #[.int .i64 m1, .int .i64 m2, .int .i64 m3, .int .i64 k1, .int .i64 k2, .int .i64 k3] 25) = Vd at *
          rw [zb] at kd
          clear zx zy zb zd
          have x0 := kx.out.cell (i := 0) rfl
          have x1 := kx.out.cell (i := 1) rfl
          have x2 := kx.out.cell (i := 2) rfl
          have y0 := ky.out.cell (i := 0) rfl
          have y1 := ky.out.cell (i := 1) rfl
          have y2 := ky.out.cell (i := 2) rfl
          have b0 := kb.out.cell (i := 0) rfl
          have b1 := kb.out.cell (i := 1) rfl
          have b2 := kb.out.cell (i := 2) rfl
          have b3 := kb.out.cell (i := 3) rfl
          have b4 := kb.out.cell (i := 4) rfl
          have b5 := kb.out.cell (i := 5) rfl
          go_wp2_with fail
          clear x0 x1 x2 y0 y1 y2 b0 b1 b2 b3 b4 b5
          (((with_reducible refine (M1.out _).mono ?_); rintro e w1 ⟨rfl, hb1⟩); replace HB := Lib.hid (HB.out.trans (hb1.mono HB.out.size)); replace kx := Lib.hid (kx.out.keep hb1); replace ky := Lib.hid (ky.out.keep hb1); replace kb := Lib.hid (kb.out.keep hb1); replace kd := Lib.hid (kd.out.keep hb1); clear hb1)
          clear M1
          have x0 := kx.out.cell (i := 0) rfl
          have x1 := kx.out.cell (i := 1) rfl
          have x2 := kx.out.cell (i := 2) rfl
          have y0 := ky.out.cell (i := 0) rfl
          have y1 := ky.out.cell (i := 1) rfl
          have y2 := ky.out.cell (i := 2) rfl
          have b0 := kb.out.cell (i := 0) rfl
          have b1 := kb.out.cell (i := 1) rfl
          have b2 := kb.out.cell (i := 2) rfl
          have b3 := kb.out.cell (i := 3) rfl
          have b4 := kb.out.cell (i := 4) rfl
          have b5 := kb.out.cell (i := 5) rfl
          go_wp2_with fail
          clear x0 x1 x2 y0 y1 y2 b0 b1 b2 b3 b4 b5
          (((with_reducible refine (M2.out _).mono ?_); rintro e w2 ⟨rfl, hb2⟩); replace HB := Lib.hid (HB.out.trans (hb2.mono HB.out.size)); replace kx := Lib.hid (kx.out.keep hb2); replace ky := Lib.hid (ky.out.keep hb2); replace kb := Lib.hid (kb.out.keep hb2); replace kd := Lib.hid (kd.out.keep hb2); clear hb2)
          clear M2
          have b0 := kb.out.cell (i := 0) rfl
          have b1 := kb.out.cell (i := 1) rfl
          have b2 := kb.out.cell (i := 2) rfl
          have b3 := kb.out.cell (i := 3) rfl
          have b4 := kb.out.cell (i := 4) rfl
          have b5 := kb.out.cell (i := 5) rfl
          have x0 := kx.out.cell (i := 0) rfl
          have x1 := kx.out.cell (i := 1) rfl
          have x2 := kx.out.cell (i := 2) rfl
          go_wp2_with fail
          clear b0 b1 b2 b3 b4 b5 x0 x1 x2
          (((with_reducible refine (H1.out _).mono ?_); rintro e w3 ⟨rfl, hb3⟩); replace HB := Lib.hid (HB.out.trans (hb3.mono HB.out.size)); replace kx := Lib.hid (kx.out.keep hb3); replace ky := Lib.hid (ky.out.keep hb3); replace kb := Lib.hid (kb.out.keep hb3); replace kd := Lib.hid (kd.out.keep hb3); clear hb3)
          clear H1
          clear H2
          have x0 := kx.out.cell (i := 0) rfl
          have x1 := kx.out.cell (i := 1) rfl
          have x2 := kx.out.cell (i := 2) rfl
          have y0 := ky.out.cell (i := 0) rfl
          have y1 := ky.out.cell (i := 1) rfl
          have y2 := ky.out.cell (i := 2) rfl
          have b0 := kb.out.cell (i := 0) rfl
          have b1 := kb.out.cell (i := 1) rfl
          have b2 := kb.out.cell (i := 2) rfl
          have b3 := kb.out.cell (i := 3) rfl
          have b4 := kb.out.cell (i := 4) rfl
          have b5 := kb.out.cell (i := 5) rfl
          go_upto_region 9 with fail
          clear x0 x1 x2 y0 y1 y2 b0 b1 b2 b3 b4 b5
          have b0 := kb.out.cell (i := 0) rfl
          have b1 := kb.out.cell (i := 1) rfl
          have b2 := kb.out.cell (i := 2) rfl
          have b3 := kb.out.cell (i := 3) rfl
          have b4 := kb.out.cell (i := 4) rfl
          have b5 := kb.out.cell (i := 5) rfl
          have d0 := kd.out.cell (i := 0) rfl
          have d1 := kd.out.cell (i := 1) rfl
          have d2 := kd.out.cell (i := 2) rfl
          have d3 := kd.out.cell (i := 3) rfl
          have d4 := kd.out.cell (i := 4) rfl
          have d5 := kd.out.cell (i := 5) rfl
          go_wp2_with fail
          clear b0 b1 b2 b3 b4 b5 d0 d1 d2 d3 d4 d5
          (((with_reducible refine (JN.out _).mono ?_); rintro e w5 ⟨rfl, hb5⟩); replace HB := Lib.hid (HB.out.trans (hb5.mono HB.out.size)); replace kx := Lib.hid (kx.out.keep hb5); replace ky := Lib.hid (ky.out.keep hb5); replace kb := Lib.hid (kb.out.keep hb5); replace kd := Lib.hid (kd.out.keep hb5); clear hb5)
          clear JN kb kd
          go_upto_region 10 with fail
          have hbo := below_new1 w5 (.cells #[.int .i64 u0, .int .i64 u1, .int .i64 u2, .int .i64 v0, .int .i64 v1, .int .i64 v2] 25)
          replace kx := Lib.hid (kx.out.keep hbo)
          replace ky := Lib.hid (ky.out.keep hbo)
          have zo : (w5.alloc (.cells #[.int .i64 u0, .int .i64 u1, .int .i64 u2, .int .i64 v0, .int .i64 v1, .int .i64 v2] 25)).heap.size = w5.heap.size + 1 := by simp
          replace HB := Lib.hid (HB.out.trans (hbo.mono HB.out.size))
          have ko := Lib.hid (Lok.new w5 25 #[.int .i64 u0, .int .i64 u1, .int .i64 u2, .int .i64 v0, .int .i64 v1, .int .i64 v2])
          clear hbo
          generalize w5.alloc (.cells #[.int .i64 u0, .int .i64 u1, .int .i64 u2, .int .i64 v0, .int .i64 v1, .int .i64 v2] 25) = Vo at *
          clear zo
          have x0 := kx.out.cell (i := 0) rfl
          have x1 := kx.out.cell (i := 1) rfl
          have x2 := kx.out.cell (i := 2) rfl
          have y0 := ky.out.cell (i := 0) rfl
          have y1 := ky.out.cell (i := 1) rfl
          have y2 := ky.out.cell (i := 2) rfl
          have o0 := ko.out.cell (i := 0) rfl
          have o1 := ko.out.cell (i := 1) rfl
          have o2 := ko.out.cell (i := 2) rfl
          have o3 := ko.out.cell (i := 3) rfl
          have o4 := ko.out.cell (i := 4) rfl
          have o5 := ko.out.cell (i := 5) rfl
          go_wp2_with fail
          clear x0 x1 x2 y0 y1 y2 o0 o1 o2 o3 o4 o5
          (((with_reducible refine (M3.out _).mono ?_); rintro e w6 ⟨rfl, hb6⟩); replace HB := Lib.hid (HB.out.trans (hb6.mono HB.out.size)); replace kx := Lib.hid (kx.out.keep hb6); replace ky := Lib.hid (ky.out.keep hb6); replace ko := Lib.hid (ko.out.keep hb6); clear hb6)
          clear M3 kx ky ko
          go_wp2_with fail
          (((with_reducible refine (BD.out _).mono ?_); rintro e w7 ⟨rfl, hb7⟩); replace HB := Lib.hid (HB.out.trans (hb7.mono HB.out.size)); clear hb7)
          clear BD
          cases rd with
          | false =>
            go_wp2
            go_ret
            exact ⟨rfl, HB.out⟩
          | true =>
            have e := HU.out rfl
            subst e
            have f := HZ.out rfl (by first | rfl | trivial)
            subst f
            go_wp2
            go_ret
            exact ⟨rfl, HB.out⟩
        | false =>
          cases hc with
          | true =>
            go_enter Try.func5, Try.ntmps5
            go_upto_region 1 with fail
            have hbx := below_new1 w (.cells #[.int .i64 a1, .int .i64 a2, .int .i64 a3] 23)
            have zx : (w.alloc (.cells #[.int .i64 a1, .int .i64 a2, .int .i64 a3] 23)).heap.size = w.heap.size + 1 := by simp
            have HB := Lib.hid hbx
            have kx := Lib.hid (Lok.new w 23 #[.int .i64 a1, .int .i64 a2, .int .i64 a3])
            clear hbx
            generalize w.alloc (.cells #[.int .i64 a1, .int .i64 a2, .int .i64 a3] 23) = Vx at *
            have hby := below_new1 Vx (.cells #[.int .i64 c1, .int .i64 c2, .int .i64 c3] 23)
            replace kx := Lib.hid (kx.out.keep hby)
            have zy : (Vx.alloc (.cells #[.int .i64 c1, .int .i64 c2, .int .i64 c3] 23)).heap.size = Vx.heap.size + 1 := by simp
            replace HB := Lib.hid (HB.out.trans (hby.mono HB.out.size))
            have ky := Lib.hid (Lok.new Vx 23 #[.int .i64 c1, .int .i64 c2, .int .i64 c3])
            clear hby
            generalize Vx.alloc (.cells #[.int .i64 c1, .int .i64 c2, .int .i64 c3] 23) = Vy at *
            rw [zx] at ky zy
            have hbb := below_new1 Vy (.cells #[.int .i64 l1, .int .i64 l2, .int .i64 l3, .int .i64 h1, .int .i64 h2, .int .i64 h3] 25)
            replace kx := Lib.hid (kx.out.keep hbb)
            replace ky := Lib.hid (ky.out.keep hbb)
            have zb : (Vy.alloc (.cells #[.int .i64 l1, .int .i64 l2, .int .i64 l3, .int .i64 h1, .int .i64 h2, .int .i64 h3] 25)).heap.size = Vy.heap.size + 1 := by simp
            replace HB := Lib.hid (HB.out.trans (hbb.mono HB.out.size))
            have kb := Lib.hid (Lok.new Vy 25 #[.int .i64 l1, .int .i64 l2, .int .i64 l3, .int .i64 h1, .int .i64 h2, .int .i64 h3])
            clear hbb
            generalize Vy.alloc (.cells #[.int .i64 l1, .int .i64 l2, .int .i64 l3, .int .i64 h1, .int .i64 h2, .int .i64 h3] 25) = Vb at *
            rw [zy] at kb zb
            have hbd := below_new1 Vb (.cells #[.int .i64 m1, .int .i64 m2, .int .i64 m3, .int .i64 k1, .int .i64 k2, .int .i64 k3] 25)
            replace kx := Lib.hid (kx.out.keep hbd)
            replace ky := Lib.hid (ky.out.keep hbd)
            replace kb := Lib.hid (kb.out.keep hbd)
            have zd : (Vb.alloc (.cells #[.int .i64 m1, .int .i64 m2, .int .i64 m3, .int .i64 k1, .int .i64 k2, .int .i64 k3] 25)).heap.size = Vb.heap.size + 1 := by simp
            replace HB := Lib.hid (HB.out.trans (hbd.mono HB.out.size))
            have kd := Lib.hid (Lok.new Vb 25 #[.int .i64 m1, .int .i64 m2, .int .i64 m3, .int .i64 k1, .int .i64 k2, .int .i64 k3])
            clear hbd
            generalize Vb.alloc (.cells #[.int .i64 m1, .int .i64 m2, .int .i64 m3, .int .i64 k1, .int .i64 k2, .int .i64 k3] 25) = Vd at *
            rw [zb] at kd
            clear zx zy zb zd
            have x0 := kx.out.cell (i := 0) rfl
            have x1 := kx.out.cell (i := 1) rfl
            have x2 := kx.out.cell (i := 2) rfl
            have y0 := ky.out.cell (i := 0) rfl
            have y1 := ky.out.cell (i := 1) rfl
            have y2 := ky.out.cell (i := 2) rfl
            have b0 := kb.out.cell (i := 0) rfl
            have b1 := kb.out.cell (i := 1) rfl
            have b2 := kb.out.cell (i := 2) rfl
            have b3 := kb.out.cell (i := 3) rfl
            have b4 := kb.out.cell (i := 4) rfl
            have b5 := kb.out.cell (i := 5) rfl
            go_wp2_with fail
            clear x0 x1 x2 y0 y1 y2 b0 b1 b2 b3 b4 b5
            (((with_reducible refine (M1.out _).mono ?_); rintro e w1 ⟨rfl, hb1⟩); replace HB := Lib.hid (HB.out.trans (hb1.mono HB.out.size)); replace kx := Lib.hid (kx.out.keep hb1); replace ky := Lib.hid (ky.out.keep hb1); replace kb := Lib.hid (kb.out.keep hb1); replace kd := Lib.hid (kd.out.keep hb1); clear hb1)
            clear M1
            have x0 := kx.out.cell (i := 0) rfl
            have x1 := kx.out.cell (i := 1) rfl
            have x2 := kx.out.cell (i := 2) rfl
            have y0 := ky.out.cell (i := 0) rfl
            have y1 := ky.out.cell (i := 1) rfl
            have y2 := ky.out.cell (i := 2) rfl
            have b0 := kb.out.cell (i := 0) rfl
            have b1 := kb.out.cell (i := 1) rfl
            have b2 := kb.out.cell (i := 2) rfl
            have b3 := kb.out.cell (i := 3) rfl
            have b4 := kb.out.cell (i := 4) rfl
            have b5 := kb.out.cell (i := 5) rfl
            go_wp2_with fail
            clear x0 x1 x2 y0 y1 y2 b0 b1 b2 b3 b4 b5
            (((with_reducible refine (M2.out _).mono ?_); rintro e w2 ⟨rfl, hb2⟩); replace HB := Lib.hid (HB.out.trans (hb2.mono HB.out.size)); replace kx := Lib.hid (kx.out.keep hb2); replace ky := Lib.hid (ky.out.keep hb2); replace kb := Lib.hid (kb.out.keep hb2); replace kd := Lib.hid (kd.out.keep hb2); clear hb2)
            clear M2
            have b0 := kb.out.cell (i := 0) rfl
            have b1 := kb.out.cell (i := 1) rfl
            have b2 := kb.out.cell (i := 2) rfl
            have b3 := kb.out.cell (i := 3) rfl
            have b4 := kb.out.cell (i := 4) rfl
            have b5 := kb.out.cell (i := 5) rfl
            have x0 := kx.out.cell (i := 0) rfl
            have x1 := kx.out.cell (i := 1) rfl
            have x2 := kx.out.cell (i := 2) rfl
            go_wp2_with fail
            clear b0 b1 b2 b3 b4 b5 x0 x1 x2
            (((with_reducible refine (H1.out _).mono ?_); rintro e w3 ⟨rfl, hb3⟩); replace HB := Lib.hid (HB.out.trans (hb3.mono HB.out.size)); replace kx := Lib.hid (kx.out.keep hb3); replace ky := Lib.hid (ky.out.keep hb3); replace kb := Lib.hid (kb.out.keep hb3); replace kd := Lib.hid (kd.out.keep hb3); clear hb3)
            clear H1
            have b0 := kb.out.cell (i := 0) rfl
            have b1 := kb.out.cell (i := 1) rfl
            have b2 := kb.out.cell (i := 2) rfl
            have b3 := kb.out.cell (i := 3) rfl
            have b4 := kb.out.cell (i := 4) rfl
            have b5 := kb.out.cell (i := 5) rfl
            have y0 := ky.out.cell (i := 0) rfl
            have y1 := ky.out.cell (i := 1) rfl
            have y2 := ky.out.cell (i := 2) rfl
            go_wp2_with fail
            clear b0 b1 b2 b3 b4 b5 y0 y1 y2
            (((with_reducible refine (H2.out _).mono ?_); rintro e w4 ⟨rfl, hb4⟩); replace HB := Lib.hid (HB.out.trans (hb4.mono HB.out.size)); replace kx := Lib.hid (kx.out.keep hb4); replace ky := Lib.hid (ky.out.keep hb4); replace kb := Lib.hid (kb.out.keep hb4); replace kd := Lib.hid (kd.out.keep hb4); clear hb4)
            clear H2
            have x0 := kx.out.cell (i := 0) rfl
            have x1 := kx.out.cell (i := 1) rfl
            have x2 := kx.out.cell (i := 2) rfl
            have y0 := ky.out.cell (i := 0) rfl
            have y1 := ky.out.cell (i := 1) rfl
            have y2 := ky.out.cell (i := 2) rfl
            have b0 := kb.out.cell (i := 0) rfl
            have b1 := kb.out.cell (i := 1) rfl
            have b2 := kb.out.cell (i := 2) rfl
            have b3 := kb.out.cell (i := 3) rfl
            have b4 := kb.out.cell (i := 4) rfl
            have b5 := kb.out.cell (i := 5) rfl
            go_upto_region 9 with fail
            clear x0 x1 x2 y0 y1 y2 b0 b1 b2 b3 b4 b5
            have b0 := kb.out.cell (i := 0) rfl
            have b1 := kb.out.cell (i := 1) rfl
            have b2 := kb.out.cell (i := 2) rfl
            have b3 := kb.out.cell (i := 3) rfl
            have b4 := kb.out.cell (i := 4) rfl
            have b5 := kb.out.cell (i := 5) rfl
            have d0 := kd.out.cell (i := 0) rfl
            have d1 := kd.out.cell (i := 1) rfl
            have d2 := kd.out.cell (i := 2) rfl
            have d3 := kd.out.cell (i := 3) rfl
            have d4 := kd.out.cell (i := 4) rfl
            have d5 := kd.out.cell (i := 5) rfl
            go_wp2_with fail
            clear b0 b1 b2 b3 b4 b5 d0 d1 d2 d3 d4 d5
            (((with_reducible refine (JN.out _).mono ?_); rintro e w5 ⟨rfl, hb5⟩); replace HB := Lib.hid (HB.out.trans (hb5.mono HB.out.size)); replace kx := Lib.hid (kx.out.keep hb5); replace ky := Lib.hid (ky.out.keep hb5); replace kb := Lib.hid (kb.out.keep hb5); replace kd := Lib.hid (kd.out.keep hb5); clear hb5)
            clear JN kb kd
            go_upto_region 10 with fail
            have hbo := below_new1 w5 (.cells #[.int .i64 u0, .int .i64 u1, .int .i64 u2, .int .i64 v0, .int .i64 v1, .int .i64 v2] 25)
            replace kx := Lib.hid (kx.out.keep hbo)
            replace ky := Lib.hid (ky.out.keep hbo)
            have zo : (w5.alloc (.cells #[.int .i64 u0, .int .i64 u1, .int .i64 u2, .int .i64 v0, .int .i64 v1, .int .i64 v2] 25)).heap.size = w5.heap.size + 1 := by simp
            replace HB := Lib.hid (HB.out.trans (hbo.mono HB.out.size))
            have ko := Lib.hid (Lok.new w5 25 #[.int .i64 u0, .int .i64 u1, .int .i64 u2, .int .i64 v0, .int .i64 v1, .int .i64 v2])
            clear hbo
            generalize w5.alloc (.cells #[.int .i64 u0, .int .i64 u1, .int .i64 u2, .int .i64 v0, .int .i64 v1, .int .i64 v2] 25) = Vo at *
            clear zo
            have x0 := kx.out.cell (i := 0) rfl
            have x1 := kx.out.cell (i := 1) rfl
            have x2 := kx.out.cell (i := 2) rfl
            have y0 := ky.out.cell (i := 0) rfl
            have y1 := ky.out.cell (i := 1) rfl
            have y2 := ky.out.cell (i := 2) rfl
            have o0 := ko.out.cell (i := 0) rfl
            have o1 := ko.out.cell (i := 1) rfl
            have o2 := ko.out.cell (i := 2) rfl
            have o3 := ko.out.cell (i := 3) rfl
            have o4 := ko.out.cell (i := 4) rfl
            have o5 := ko.out.cell (i := 5) rfl
            go_wp2_with fail
            clear x0 x1 x2 y0 y1 y2 o0 o1 o2 o3 o4 o5
            (((with_reducible refine (M3.out _).mono ?_); rintro e w6 ⟨rfl, hb6⟩); replace HB := Lib.hid (HB.out.trans (hb6.mono HB.out.size)); replace kx := Lib.hid (kx.out.keep hb6); replace ky := Lib.hid (ky.out.keep hb6); replace ko := Lib.hid (ko.out.keep hb6); clear hb6)
            clear M3 kx ky ko
            go_wp2_with fail
            (((with_reducible refine (BD.out _).mono ?_); rintro e w7 ⟨rfl, hb7⟩); replace HB := Lib.hid (HB.out.trans (hb7.mono HB.out.size)); clear hb7)
            clear BD
            cases rd with
            | false =>
              go_wp2
              go_ret
              exact ⟨rfl, HB.out⟩
            | true =>
              have e := HU.out rfl
              subst e
              have f := HZ.out rfl (by first | rfl | trivial)
              subst f
              go_wp2
              go_ret
              exact ⟨rfl, HB.out⟩
          | false =>
            go_enter Try.func5, Try.ntmps5
            go_upto_region 1 with fail
            have hbx := below_new1 w (.cells #[.int .i64 a1, .int .i64 a2, .int .i64 a3] 23)
            have zx : (w.alloc (.cells #[.int .i64 a1, .int .i64 a2, .int .i64 a3] 23)).heap.size = w.heap.size + 1 := by simp
            have HB := Lib.hid hbx
            have kx := Lib.hid (Lok.new w 23 #[.int .i64 a1, .int .i64 a2, .int .i64 a3])
            clear hbx
            generalize w.alloc (.cells #[.int .i64 a1, .int .i64 a2, .int .i64 a3] 23) = Vx at *
            have hby := below_new1 Vx (.cells #[.int .i64 c1, .int .i64 c2, .int .i64 c3] 23)
            replace kx := Lib.hid (kx.out.keep hby)
            have zy : (Vx.alloc (.cells #[.int .i64 c1, .int .i64 c2, .int .i64 c3] 23)).heap.size = Vx.heap.size + 1 := by simp
            replace HB := Lib.hid (HB.out.trans (hby.mono HB.out.size))
            have ky := Lib.hid (Lok.new Vx 23 #[.int .i64 c1, .int .i64 c2, .int .i64 c3])
            clear hby
            generalize Vx.alloc (.cells #[.int .i64 c1, .int .i64 c2, .int .i64 c3] 23) = Vy at *
            rw [zx] at ky zy
            have hbb := below_new1 Vy (.cells #[.int .i64 l1, .int .i64 l2, .int .i64 l3, .int .i64 h1, .int .i64 h2, .int .i64 h3] 25)
            replace kx := Lib.hid (kx.out.keep hbb)
            replace ky := Lib.hid (ky.out.keep hbb)
            have zb : (Vy.alloc (.cells #[.int .i64 l1, .int .i64 l2, .int .i64 l3, .int .i64 h1, .int .i64 h2, .int .i64 h3] 25)).heap.size = Vy.heap.size + 1 := by simp
            replace HB := Lib.hid (HB.out.trans (hbb.mono HB.out.size))
            have kb := Lib.hid (Lok.new Vy 25 #[.int .i64 l1, .int .i64 l2, .int .i64 l3, .int .i64 h1, .int .i64 h2, .int .i64 h3])
            clear hbb
            generalize Vy.alloc (.cells #[.int .i64 l1, .int .i64 l2, .int .i64 l3, .int .i64 h1, .int .i64 h2, .int .i64 h3] 25) = Vb at *
            rw [zy] at kb zb
            have hbd := below_new1 Vb (.cells #[.int .i64 m1, .int .i64 m2, .int .i64 m3, .int .i64 k1, .int .i64 k2, .int .i64 k3] 25)
            replace kx := Lib.hid (kx.out.keep hbd)
            replace ky := Lib.hid (ky.out.keep hbd)
            replace kb := Lib.hid (kb.out.keep hbd)
            have zd : (Vb.alloc (.cells #[.int .i64 m1, .int .i64 m2, .int .i64 m3, .int .i64 k1, .int .i64 k2, .int .i64 k3] 25)).heap.size = Vb.heap.size + 1 := by simp
            replace HB := Lib.hid (HB.out.trans (hbd.mono HB.out.size))
            have kd := Lib.hid (Lok.new Vb 25 #[.int .i64 m1, .int .i64 m2, .int .i64 m3, .int .i64 k1, .int .i64 k2, .int .i64 k3])
            clear hbd
            generalize Vb.alloc (.cells #[.int .i64 m1, .int .i64 m2, .int .i64 m3, .int .i64 k1, .int .i64 k2, .int .i64 k3] 25) = Vd at *
            rw [zb] at kd
            clear zx zy zb zd
            have x0 := kx.out.cell (i := 0) rfl
            have x1 := kx.out.cell (i := 1) rfl
            have x2 := kx.out.cell (i := 2) rfl
            have y0 := ky.out.cell (i := 0) rfl
            have y1 := ky.out.cell (i := 1) rfl
            have y2 := ky.out.cell (i := 2) rfl
            have b0 := kb.out.cell (i := 0) rfl
            have b1 := kb.out.cell (i := 1) rfl
            have b2 := kb.out.cell (i := 2) rfl
            have b3 := kb.out.cell (i := 3) rfl
            have b4 := kb.out.cell (i := 4) rfl
            have b5 := kb.out.cell (i := 5) rfl
            go_wp2_with fail
            clear x0 x1 x2 y0 y1 y2 b0 b1 b2 b3 b4 b5
            (((with_reducible refine (M1.out _).mono ?_); rintro e w1 ⟨rfl, hb1⟩); replace HB := Lib.hid (HB.out.trans (hb1.mono HB.out.size)); replace kx := Lib.hid (kx.out.keep hb1); replace ky := Lib.hid (ky.out.keep hb1); replace kb := Lib.hid (kb.out.keep hb1); replace kd := Lib.hid (kd.out.keep hb1); clear hb1)
            clear M1
            have x0 := kx.out.cell (i := 0) rfl
            have x1 := kx.out.cell (i := 1) rfl
            have x2 := kx.out.cell (i := 2) rfl
            have y0 := ky.out.cell (i := 0) rfl
            have y1 := ky.out.cell (i := 1) rfl
            have y2 := ky.out.cell (i := 2) rfl
            have b0 := kb.out.cell (i := 0) rfl
            have b1 := kb.out.cell (i := 1) rfl
            have b2 := kb.out.cell (i := 2) rfl
            have b3 := kb.out.cell (i := 3) rfl
            have b4 := kb.out.cell (i := 4) rfl
            have b5 := kb.out.cell (i := 5) rfl
            go_wp2_with fail
            clear x0 x1 x2 y0 y1 y2 b0 b1 b2 b3 b4 b5
            (((with_reducible refine (M2.out _).mono ?_); rintro e w2 ⟨rfl, hb2⟩); replace HB := Lib.hid (HB.out.trans (hb2.mono HB.out.size)); replace kx := Lib.hid (kx.out.keep hb2); replace ky := Lib.hid (ky.out.keep hb2); replace kb := Lib.hid (kb.out.keep hb2); replace kd := Lib.hid (kd.out.keep hb2); clear hb2)
            clear M2
            have b0 := kb.out.cell (i := 0) rfl
            have b1 := kb.out.cell (i := 1) rfl
            have b2 := kb.out.cell (i := 2) rfl
            have b3 := kb.out.cell (i := 3) rfl
            have b4 := kb.out.cell (i := 4) rfl
            have b5 := kb.out.cell (i := 5) rfl
            have x0 := kx.out.cell (i := 0) rfl
            have x1 := kx.out.cell (i := 1) rfl
            have x2 := kx.out.cell (i := 2) rfl
            go_wp2_with fail
            clear b0 b1 b2 b3 b4 b5 x0 x1 x2
            (((with_reducible refine (H1.out _).mono ?_); rintro e w3 ⟨rfl, hb3⟩); replace HB := Lib.hid (HB.out.trans (hb3.mono HB.out.size)); replace kx := Lib.hid (kx.out.keep hb3); replace ky := Lib.hid (ky.out.keep hb3); replace kb := Lib.hid (kb.out.keep hb3); replace kd := Lib.hid (kd.out.keep hb3); clear hb3)
            clear H1
            have b0 := kb.out.cell (i := 0) rfl
            have b1 := kb.out.cell (i := 1) rfl
            have b2 := kb.out.cell (i := 2) rfl
            have b3 := kb.out.cell (i := 3) rfl
            have b4 := kb.out.cell (i := 4) rfl
            have b5 := kb.out.cell (i := 5) rfl
            have y0 := ky.out.cell (i := 0) rfl
            have y1 := ky.out.cell (i := 1) rfl
            have y2 := ky.out.cell (i := 2) rfl
            go_wp2_with fail
            clear b0 b1 b2 b3 b4 b5 y0 y1 y2
            (((with_reducible refine (H2.out _).mono ?_); rintro e w4 ⟨rfl, hb4⟩); replace HB := Lib.hid (HB.out.trans (hb4.mono HB.out.size)); replace kx := Lib.hid (kx.out.keep hb4); replace ky := Lib.hid (ky.out.keep hb4); replace kb := Lib.hid (kb.out.keep hb4); replace kd := Lib.hid (kd.out.keep hb4); clear hb4)
            clear H2
            have x0 := kx.out.cell (i := 0) rfl
            have x1 := kx.out.cell (i := 1) rfl
            have x2 := kx.out.cell (i := 2) rfl
            have y0 := ky.out.cell (i := 0) rfl
            have y1 := ky.out.cell (i := 1) rfl
            have y2 := ky.out.cell (i := 2) rfl
            have b0 := kb.out.cell (i := 0) rfl
            have b1 := kb.out.cell (i := 1) rfl
            have b2 := kb.out.cell (i := 2) rfl
            have b3 := kb.out.cell (i := 3) rfl
            have b4 := kb.out.cell (i := 4) rfl
            have b5 := kb.out.cell (i := 5) rfl
            go_upto_region 9 with fail
            clear x0 x1 x2 y0 y1 y2 b0 b1 b2 b3 b4 b5
            have b0 := kb.out.cell (i := 0) rfl
            have b1 := kb.out.cell (i := 1) rfl
            have b2 := kb.out.cell (i := 2) rfl
            have b3 := kb.out.cell (i := 3) rfl
            have b4 := kb.out.cell (i := 4) rfl
            have b5 := kb.out.cell (i := 5) rfl
            have d0 := kd.out.cell (i := 0) rfl
            have d1 := kd.out.cell (i := 1) rfl
            have d2 := kd.out.cell (i := 2) rfl
            have d3 := kd.out.cell (i := 3) rfl
            have d4 := kd.out.cell (i := 4) rfl
            have d5 := kd.out.cell (i := 5) rfl
            go_wp2_with fail
            clear b0 b1 b2 b3 b4 b5 d0 d1 d2 d3 d4 d5
            (((with_reducible refine (JN.out _).mono ?_); rintro e w5 ⟨rfl, hb5⟩); replace HB := Lib.hid (HB.out.trans (hb5.mono HB.out.size)); replace kx := Lib.hid (kx.out.keep hb5); replace ky := Lib.hid (ky.out.keep hb5); replace kb := Lib.hid (kb.out.keep hb5); replace kd := Lib.hid (kd.out.keep hb5); clear hb5)
            clear JN kb kd
            go_upto_region 10 with fail
            have hbo := below_new1 w5 (.cells #[.int .i64 u0, .int .i64 u1, .int .i64 u2, .int .i64 v0, .int .i64 v1, .int .i64 v2] 25)
            replace kx := Lib.hid (kx.out.keep hbo)
            replace ky := Lib.hid (ky.out.keep hbo)
            have zo : (w5.alloc (.cells #[.int .i64 u0, .int .i64 u1, .int .i64 u2, .int .i64 v0, .int .i64 v1, .int .i64 v2] 25)).heap.size = w5.heap.size + 1 := by simp
            replace HB := Lib.hid (HB.out.trans (hbo.mono HB.out.size))
            have ko := Lib.hid (Lok.new w5 25 #[.int .i64 u0, .int .i64 u1, .int .i64 u2, .int .i64 v0, .int .i64 v1, .int .i64 v2])
            clear hbo
            generalize w5.alloc (.cells #[.int .i64 u0, .int .i64 u1, .int .i64 u2, .int .i64 v0, .int .i64 v1, .int .i64 v2] 25) = Vo at *
            clear zo
            have x0 := kx.out.cell (i := 0) rfl
            have x1 := kx.out.cell (i := 1) rfl
            have x2 := kx.out.cell (i := 2) rfl
            have y0 := ky.out.cell (i := 0) rfl
            have y1 := ky.out.cell (i := 1) rfl
            have y2 := ky.out.cell (i := 2) rfl
            have o0 := ko.out.cell (i := 0) rfl
            have o1 := ko.out.cell (i := 1) rfl
            have o2 := ko.out.cell (i := 2) rfl
            have o3 := ko.out.cell (i := 3) rfl
            have o4 := ko.out.cell (i := 4) rfl
            have o5 := ko.out.cell (i := 5) rfl
            go_wp2_with fail
            clear x0 x1 x2 y0 y1 y2 o0 o1 o2 o3 o4 o5
            (((with_reducible refine (M3.out _).mono ?_); rintro e w6 ⟨rfl, hb6⟩); replace HB := Lib.hid (HB.out.trans (hb6.mono HB.out.size)); replace kx := Lib.hid (kx.out.keep hb6); replace ky := Lib.hid (ky.out.keep hb6); replace ko := Lib.hid (ko.out.keep hb6); clear hb6)
            clear M3 kx ky ko
            go_wp2_with fail
            (((with_reducible refine (BD.out _).mono ?_); rintro e w7 ⟨rfl, hb7⟩); replace HB := Lib.hid (HB.out.trans (hb7.mono HB.out.size)); clear hb7)
            clear BD
            cases rd with
            | false =>
              go_wp2
              go_ret
              exact ⟨rfl, HB.out⟩
            | true =>
              have e := HU.out rfl
              subst e
              have f := HZ.out rfl (by first | rfl | trivial)
              subst f
              go_wp2
              go_ret
              exact ⟨rfl, HB.out⟩
      | false =>
        have na : ha = false := by
          cases ha with
          | false => rfl
          | true => exact absurd (EF.out rfl) (by decide)
        have nc : hc = false := by
          cases hc with
          | false => rfl
          | true => exact absurd (EL.out rfl) (by decide)
        subst na
        subst nc
        clear SD EF EL HZ
        by_cases s1 : max a1 c1 < l1
        · by_cases s2 : h2 < min a2 c2
          · skip
            go_enter Try.func5, Try.ntmps5
            go_upto_region 1 with fail
            have hbx := below_new1 w (.cells #[.int .i64 a1, .int .i64 a2, .int .i64 a3] 23)
            have zx : (w.alloc (.cells #[.int .i64 a1, .int .i64 a2, .int .i64 a3] 23)).heap.size = w.heap.size + 1 := by simp
            have HB := Lib.hid hbx
            have kx := Lib.hid (Lok.new w 23 #[.int .i64 a1, .int .i64 a2, .int .i64 a3])
            clear hbx
            generalize w.alloc (.cells #[.int .i64 a1, .int .i64 a2, .int .i64 a3] 23) = Vx at *
            have hby := below_new1 Vx (.cells #[.int .i64 c1, .int .i64 c2, .int .i64 c3] 23)
            replace kx := Lib.hid (kx.out.keep hby)
            have zy : (Vx.alloc (.cells #[.int .i64 c1, .int .i64 c2, .int .i64 c3] 23)).heap.size = Vx.heap.size + 1 := by simp
            replace HB := Lib.hid (HB.out.trans (hby.mono HB.out.size))
            have ky := Lib.hid (Lok.new Vx 23 #[.int .i64 c1, .int .i64 c2, .int .i64 c3])
            clear hby
            generalize Vx.alloc (.cells #[.int .i64 c1, .int .i64 c2, .int .i64 c3] 23) = Vy at *
            rw [zx] at ky zy
            have hbb := below_new1 Vy (.cells #[.int .i64 l1, .int .i64 l2, .int .i64 l3, .int .i64 h1, .int .i64 h2, .int .i64 h3] 25)
            replace kx := Lib.hid (kx.out.keep hbb)
            replace ky := Lib.hid (ky.out.keep hbb)
            have zb : (Vy.alloc (.cells #[.int .i64 l1, .int .i64 l2, .int .i64 l3, .int .i64 h1, .int .i64 h2, .int .i64 h3] 25)).heap.size = Vy.heap.size + 1 := by simp
            replace HB := Lib.hid (HB.out.trans (hbb.mono HB.out.size))
            have kb := Lib.hid (Lok.new Vy 25 #[.int .i64 l1, .int .i64 l2, .int .i64 l3, .int .i64 h1, .int .i64 h2, .int .i64 h3])
            clear hbb
            generalize Vy.alloc (.cells #[.int .i64 l1, .int .i64 l2, .int .i64 l3, .int .i64 h1, .int .i64 h2, .int .i64 h3] 25) = Vb at *
            rw [zy] at kb zb
            have hbd := below_new1 Vb (.cells #[.int .i64 m1, .int .i64 m2, .int .i64 m3, .int .i64 k1, .int .i64 k2, .int .i64 k3] 25)
            replace kx := Lib.hid (kx.out.keep hbd)
            replace ky := Lib.hid (ky.out.keep hbd)
            replace kb := Lib.hid (kb.out.keep hbd)
            have zd : (Vb.alloc (.cells #[.int .i64 m1, .int .i64 m2, .int .i64 m3, .int .i64 k1, .int .i64 k2, .int .i64 k3] 25)).heap.size = Vb.heap.size + 1 := by simp
            replace HB := Lib.hid (HB.out.trans (hbd.mono HB.out.size))
            have kd := Lib.hid (Lok.new Vb 25 #[.int .i64 m1, .int .i64 m2, .int .i64 m3, .int .i64 k1, .int .i64 k2, .int .i64 k3])
            clear hbd
            generalize Vb.alloc (.cells #[.int .i64 m1, .int .i64 m2, .int .i64 m3, .int .i64 k1, .int .i64 k2, .int .i64 k3] 25) = Vd at *
            rw [zb] at kd
            clear zx zy zb zd
            have x0 := kx.out.cell (i := 0) rfl
            have x1 := kx.out.cell (i := 1) rfl
            have x2 := kx.out.cell (i := 2) rfl
            have y0 := ky.out.cell (i := 0) rfl
            have y1 := ky.out.cell (i := 1) rfl
            have y2 := ky.out.cell (i := 2) rfl
            have b0 := kb.out.cell (i := 0) rfl
            have b1 := kb.out.cell (i := 1) rfl
            have b2 := kb.out.cell (i := 2) rfl
            have b3 := kb.out.cell (i := 3) rfl
            have b4 := kb.out.cell (i := 4) rfl
            have b5 := kb.out.cell (i := 5) rfl
            go_wp2_with fail
            clear x0 x1 x2 y0 y1 y2 b0 b1 b2 b3 b4 b5
            (((with_reducible refine (M1.out _).mono ?_); rintro e w1 ⟨rfl, hb1⟩); replace HB := Lib.hid (HB.out.trans (hb1.mono HB.out.size)); replace kx := Lib.hid (kx.out.keep hb1); replace ky := Lib.hid (ky.out.keep hb1); replace kb := Lib.hid (kb.out.keep hb1); replace kd := Lib.hid (kd.out.keep hb1); clear hb1)
            clear M1
            have x0 := kx.out.cell (i := 0) rfl
            have x1 := kx.out.cell (i := 1) rfl
            have x2 := kx.out.cell (i := 2) rfl
            have y0 := ky.out.cell (i := 0) rfl
            have y1 := ky.out.cell (i := 1) rfl
            have y2 := ky.out.cell (i := 2) rfl
            have b0 := kb.out.cell (i := 0) rfl
            have b1 := kb.out.cell (i := 1) rfl
            have b2 := kb.out.cell (i := 2) rfl
            have b3 := kb.out.cell (i := 3) rfl
            have b4 := kb.out.cell (i := 4) rfl
            have b5 := kb.out.cell (i := 5) rfl
            go_wp2_with fail
            clear x0 x1 x2 y0 y1 y2 b0 b1 b2 b3 b4 b5
            (((with_reducible refine (M2.out _).mono ?_); rintro e w2 ⟨rfl, hb2⟩); replace HB := Lib.hid (HB.out.trans (hb2.mono HB.out.size)); replace kx := Lib.hid (kx.out.keep hb2); replace ky := Lib.hid (ky.out.keep hb2); replace kb := Lib.hid (kb.out.keep hb2); replace kd := Lib.hid (kd.out.keep hb2); clear hb2)
            clear M2
            have b0 := kb.out.cell (i := 0) rfl
            have b1 := kb.out.cell (i := 1) rfl
            have b2 := kb.out.cell (i := 2) rfl
            have b3 := kb.out.cell (i := 3) rfl
            have b4 := kb.out.cell (i := 4) rfl
            have b5 := kb.out.cell (i := 5) rfl
            have x0 := kx.out.cell (i := 0) rfl
            have x1 := kx.out.cell (i := 1) rfl
            have x2 := kx.out.cell (i := 2) rfl
            go_wp2_with fail
            clear b0 b1 b2 b3 b4 b5 x0 x1 x2
            (((with_reducible refine (H1.out _).mono ?_); rintro e w3 ⟨rfl, hb3⟩); replace HB := Lib.hid (HB.out.trans (hb3.mono HB.out.size)); replace kx := Lib.hid (kx.out.keep hb3); replace ky := Lib.hid (ky.out.keep hb3); replace kb := Lib.hid (kb.out.keep hb3); replace kd := Lib.hid (kd.out.keep hb3); clear hb3)
            clear H1
            have b0 := kb.out.cell (i := 0) rfl
            have b1 := kb.out.cell (i := 1) rfl
            have b2 := kb.out.cell (i := 2) rfl
            have b3 := kb.out.cell (i := 3) rfl
            have b4 := kb.out.cell (i := 4) rfl
            have b5 := kb.out.cell (i := 5) rfl
            have y0 := ky.out.cell (i := 0) rfl
            have y1 := ky.out.cell (i := 1) rfl
            have y2 := ky.out.cell (i := 2) rfl
            go_wp2_with fail
            clear b0 b1 b2 b3 b4 b5 y0 y1 y2
            (((with_reducible refine (H2.out _).mono ?_); rintro e w4 ⟨rfl, hb4⟩); replace HB := Lib.hid (HB.out.trans (hb4.mono HB.out.size)); replace kx := Lib.hid (kx.out.keep hb4); replace ky := Lib.hid (ky.out.keep hb4); replace kb := Lib.hid (kb.out.keep hb4); replace kd := Lib.hid (kd.out.keep hb4); clear hb4)
            clear H2
            have x0 := kx.out.cell (i := 0) rfl
            have x1 := kx.out.cell (i := 1) rfl
            have x2 := kx.out.cell (i := 2) rfl
            have y0 := ky.out.cell (i := 0) rfl
            have y1 := ky.out.cell (i := 1) rfl
            have y2 := ky.out.cell (i := 2) rfl
            have b0 := kb.out.cell (i := 0) rfl
            have b1 := kb.out.cell (i := 1) rfl
            have b2 := kb.out.cell (i := 2) rfl
            have b3 := kb.out.cell (i := 3) rfl
            have b4 := kb.out.cell (i := 4) rfl
            have b5 := kb.out.cell (i := 5) rfl
            go_upto_region 9 with fail
            clear x0 x1 x2 y0 y1 y2 b0 b1 b2 b3 b4 b5
            have b0 := kb.out.cell (i := 0) rfl
            have b1 := kb.out.cell (i := 1) rfl
            have b2 := kb.out.cell (i := 2) rfl
            have b3 := kb.out.cell (i := 3) rfl
            have b4 := kb.out.cell (i := 4) rfl
            have b5 := kb.out.cell (i := 5) rfl
            have d0 := kd.out.cell (i := 0) rfl
            have d1 := kd.out.cell (i := 1) rfl
            have d2 := kd.out.cell (i := 2) rfl
            have d3 := kd.out.cell (i := 3) rfl
            have d4 := kd.out.cell (i := 4) rfl
            have d5 := kd.out.cell (i := 5) rfl
            go_wp2_with fail
            clear b0 b1 b2 b3 b4 b5 d0 d1 d2 d3 d4 d5
            (((with_reducible refine (JN.out _).mono ?_); rintro e w5 ⟨rfl, hb5⟩); replace HB := Lib.hid (HB.out.trans (hb5.mono HB.out.size)); replace kx := Lib.hid (kx.out.keep hb5); replace ky := Lib.hid (ky.out.keep hb5); replace kb := Lib.hid (kb.out.keep hb5); replace kd := Lib.hid (kd.out.keep hb5); clear hb5)
            clear JN kb kd
            go_upto_region 10 with fail
            have hbo := below_new1 w5 (.cells #[.int .i64 u0, .int .i64 u1, .int .i64 u2, .int .i64 v0, .int .i64 v1, .int .i64 v2] 25)
            replace kx := Lib.hid (kx.out.keep hbo)
            replace ky := Lib.hid (ky.out.keep hbo)
            have zo : (w5.alloc (.cells #[.int .i64 u0, .int .i64 u1, .int .i64 u2, .int .i64 v0, .int .i64 v1, .int .i64 v2] 25)).heap.size = w5.heap.size + 1 := by simp
            replace HB := Lib.hid (HB.out.trans (hbo.mono HB.out.size))
            have ko := Lib.hid (Lok.new w5 25 #[.int .i64 u0, .int .i64 u1, .int .i64 u2, .int .i64 v0, .int .i64 v1, .int .i64 v2])
            clear hbo
            generalize w5.alloc (.cells #[.int .i64 u0, .int .i64 u1, .int .i64 u2, .int .i64 v0, .int .i64 v1, .int .i64 v2] 25) = Vo at *
            clear zo
            have x0 := kx.out.cell (i := 0) rfl
            have x1 := kx.out.cell (i := 1) rfl
            have x2 := kx.out.cell (i := 2) rfl
            have y0 := ky.out.cell (i := 0) rfl
            have y1 := ky.out.cell (i := 1) rfl
            have y2 := ky.out.cell (i := 2) rfl
            have o0 := ko.out.cell (i := 0) rfl
            have o1 := ko.out.cell (i := 1) rfl
            have o2 := ko.out.cell (i := 2) rfl
            have o3 := ko.out.cell (i := 3) rfl
            have o4 := ko.out.cell (i := 4) rfl
            have o5 := ko.out.cell (i := 5) rfl
            go_wp2_with fail
            clear x0 x1 x2 y0 y1 y2 o0 o1 o2 o3 o4 o5
            (((with_reducible refine (M3.out _).mono ?_); rintro e w6 ⟨rfl, hb6⟩); replace HB := Lib.hid (HB.out.trans (hb6.mono HB.out.size)); replace kx := Lib.hid (kx.out.keep hb6); replace ky := Lib.hid (ky.out.keep hb6); replace ko := Lib.hid (ko.out.keep hb6); clear hb6)
            clear M3 kx ky ko
            go_wp2_with fail
            (((with_reducible refine (BD.out _).mono ?_); rintro e w7 ⟨rfl, hb7⟩); replace HB := Lib.hid (HB.out.trans (hb7.mono HB.out.size)); clear hb7)
            clear BD
            cases rd with
            | false =>
              go_wp2
              go_ret
              exact ⟨rfl, HB.out⟩
            | true =>
              have e := HU.out rfl
              subst e
              go_wp2
              go_ret
              exact ⟨rfl, HB.out⟩
          · skip
            go_enter Try.func5, Try.ntmps5
            go_upto_region 1 with fail
            have hbx := below_new1 w (.cells #[.int .i64 a1, .int .i64 a2, .int .i64 a3] 23)
            have zx : (w.alloc (.cells #[.int .i64 a1, .int .i64 a2, .int .i64 a3] 23)).heap.size = w.heap.size + 1 := by simp
            have HB := Lib.hid hbx
            have kx := Lib.hid (Lok.new w 23 #[.int .i64 a1, .int .i64 a2, .int .i64 a3])
            clear hbx
            generalize w.alloc (.cells #[.int .i64 a1, .int .i64 a2, .int .i64 a3] 23) = Vx at *
            have hby := below_new1 Vx (.cells #[.int .i64 c1, .int .i64 c2, .int .i64 c3] 23)
            replace kx := Lib.hid (kx.out.keep hby)
            have zy : (Vx.alloc (.cells #[.int .i64 c1, .int .i64 c2, .int .i64 c3] 23)).heap.size = Vx.heap.size + 1 := by simp
            replace HB := Lib.hid (HB.out.trans (hby.mono HB.out.size))
            have ky := Lib.hid (Lok.new Vx 23 #[.int .i64 c1, .int .i64 c2, .int .i64 c3])
            clear hby
            generalize Vx.alloc (.cells #[.int .i64 c1, .int .i64 c2, .int .i64 c3] 23) = Vy at *
            rw [zx] at ky zy
            have hbb := below_new1 Vy (.cells #[.int .i64 l1, .int .i64 l2, .int .i64 l3, .int .i64 h1, .int .i64 h2, .int .i64 h3] 25)
            replace kx := Lib.hid (kx.out.keep hbb)
            replace ky := Lib.hid (ky.out.keep hbb)
            have zb : (Vy.alloc (.cells #[.int .i64 l1, .int .i64 l2, .int .i64 l3, .int .i64 h1, .int .i64 h2, .int .i64 h3] 25)).heap.size = Vy.heap.size + 1 := by simp
            replace HB := Lib.hid (HB.out.trans (hbb.mono HB.out.size))
            have kb := Lib.hid (Lok.new Vy 25 #[.int .i64 l1, .int .i64 l2, .int .i64 l3, .int .i64 h1, .int .i64 h2, .int .i64 h3])
            clear hbb
            generalize Vy.alloc (.cells #[.int .i64 l1, .int .i64 l2, .int .i64 l3, .int .i64 h1, .int .i64 h2, .int .i64 h3] 25) = Vb at *
            rw [zy] at kb zb
            have hbd := below_new1 Vb (.cells #[.int .i64 m1, .int .i64 m2, .int .i64 m3, .int .i64 k1, .int .i64 k2, .int .i64 k3] 25)
            replace kx := Lib.hid (kx.out.keep hbd)
            replace ky := Lib.hid (ky.out.keep hbd)
            replace kb := Lib.hid (kb.out.keep hbd)
            have zd : (Vb.alloc (.cells #[.int .i64 m1, .int .i64 m2, .int .i64 m3, .int .i64 k1, .int .i64 k2, .int .i64 k3] 25)).heap.size = Vb.heap.size + 1 := by simp
            replace HB := Lib.hid (HB.out.trans (hbd.mono HB.out.size))
            have kd := Lib.hid (Lok.new Vb 25 #[.int .i64 m1, .int .i64 m2, .int .i64 m3, .int .i64 k1, .int .i64 k2, .int .i64 k3])
            clear hbd
            generalize Vb.alloc (.cells #[.int .i64 m1, .int .i64 m2, .int .i64 m3, .int .i64 k1, .int .i64 k2, .int .i64 k3] 25) = Vd at *
            rw [zb] at kd
            clear zx zy zb zd
            have x0 := kx.out.cell (i := 0) rfl
            have x1 := kx.out.cell (i := 1) rfl
            have x2 := kx.out.cell (i := 2) rfl
            have y0 := ky.out.cell (i := 0) rfl
            have y1 := ky.out.cell (i := 1) rfl
            have y2 := ky.out.cell (i := 2) rfl
            have b0 := kb.out.cell (i := 0) rfl
            have b1 := kb.out.cell (i := 1) rfl
            have b2 := kb.out.cell (i := 2) rfl
            have b3 := kb.out.cell (i := 3) rfl
            have b4 := kb.out.cell (i := 4) rfl
            have b5 := kb.out.cell (i := 5) rfl
            go_wp2_with fail
            clear x0 x1 x2 y0 y1 y2 b0 b1 b2 b3 b4 b5
            (((with_reducible refine (M1.out _).mono ?_); rintro e w1 ⟨rfl, hb1⟩); replace HB := Lib.hid (HB.out.trans (hb1.mono HB.out.size)); replace kx := Lib.hid (kx.out.keep hb1); replace ky := Lib.hid (ky.out.keep hb1); replace kb := Lib.hid (kb.out.keep hb1); replace kd := Lib.hid (kd.out.keep hb1); clear hb1)
            clear M1
            have x0 := kx.out.cell (i := 0) rfl
            have x1 := kx.out.cell (i := 1) rfl
            have x2 := kx.out.cell (i := 2) rfl
            have y0 := ky.out.cell (i := 0) rfl
            have y1 := ky.out.cell (i := 1) rfl
            have y2 := ky.out.cell (i := 2) rfl
            have b0 := kb.out.cell (i := 0) rfl
            have b1 := kb.out.cell (i := 1) rfl
            have b2 := kb.out.cell (i := 2) rfl
            have b3 := kb.out.cell (i := 3) rfl
            have b4 := kb.out.cell (i := 4) rfl
            have b5 := kb.out.cell (i := 5) rfl
            go_wp2_with fail
            clear x0 x1 x2 y0 y1 y2 b0 b1 b2 b3 b4 b5
            (((with_reducible refine (M2.out _).mono ?_); rintro e w2 ⟨rfl, hb2⟩); replace HB := Lib.hid (HB.out.trans (hb2.mono HB.out.size)); replace kx := Lib.hid (kx.out.keep hb2); replace ky := Lib.hid (ky.out.keep hb2); replace kb := Lib.hid (kb.out.keep hb2); replace kd := Lib.hid (kd.out.keep hb2); clear hb2)
            clear M2
            have b0 := kb.out.cell (i := 0) rfl
            have b1 := kb.out.cell (i := 1) rfl
            have b2 := kb.out.cell (i := 2) rfl
            have b3 := kb.out.cell (i := 3) rfl
            have b4 := kb.out.cell (i := 4) rfl
            have b5 := kb.out.cell (i := 5) rfl
            have x0 := kx.out.cell (i := 0) rfl
            have x1 := kx.out.cell (i := 1) rfl
            have x2 := kx.out.cell (i := 2) rfl
            go_wp2_with fail
            clear b0 b1 b2 b3 b4 b5 x0 x1 x2
            (((with_reducible refine (H1.out _).mono ?_); rintro e w3 ⟨rfl, hb3⟩); replace HB := Lib.hid (HB.out.trans (hb3.mono HB.out.size)); replace kx := Lib.hid (kx.out.keep hb3); replace ky := Lib.hid (ky.out.keep hb3); replace kb := Lib.hid (kb.out.keep hb3); replace kd := Lib.hid (kd.out.keep hb3); clear hb3)
            clear H1
            have b0 := kb.out.cell (i := 0) rfl
            have b1 := kb.out.cell (i := 1) rfl
            have b2 := kb.out.cell (i := 2) rfl
            have b3 := kb.out.cell (i := 3) rfl
            have b4 := kb.out.cell (i := 4) rfl
            have b5 := kb.out.cell (i := 5) rfl
            have y0 := ky.out.cell (i := 0) rfl
            have y1 := ky.out.cell (i := 1) rfl
            have y2 := ky.out.cell (i := 2) rfl
            go_wp2_with fail
            clear b0 b1 b2 b3 b4 b5 y0 y1 y2
            (((with_reducible refine (H2.out _).mono ?_); rintro e w4 ⟨rfl, hb4⟩); replace HB := Lib.hid (HB.out.trans (hb4.mono HB.out.size)); replace kx := Lib.hid (kx.out.keep hb4); replace ky := Lib.hid (ky.out.keep hb4); replace kb := Lib.hid (kb.out.keep hb4); replace kd := Lib.hid (kd.out.keep hb4); clear hb4)
            clear H2
            have x0 := kx.out.cell (i := 0) rfl
            have x1 := kx.out.cell (i := 1) rfl
            have x2 := kx.out.cell (i := 2) rfl
            have y0 := ky.out.cell (i := 0) rfl
            have y1 := ky.out.cell (i := 1) rfl
            have y2 := ky.out.cell (i := 2) rfl
            have b0 := kb.out.cell (i := 0) rfl
            have b1 := kb.out.cell (i := 1) rfl
            have b2 := kb.out.cell (i := 2) rfl
            have b3 := kb.out.cell (i := 3) rfl
            have b4 := kb.out.cell (i := 4) rfl
            have b5 := kb.out.cell (i := 5) rfl
            go_upto_region 9 with fail
            clear x0 x1 x2 y0 y1 y2 b0 b1 b2 b3 b4 b5
            have b0 := kb.out.cell (i := 0) rfl
            have b1 := kb.out.cell (i := 1) rfl
            have b2 := kb.out.cell (i := 2) rfl
            have b3 := kb.out.cell (i := 3) rfl
            have b4 := kb.out.cell (i := 4) rfl
            have b5 := kb.out.cell (i := 5) rfl
            have d0 := kd.out.cell (i := 0) rfl
            have d1 := kd.out.cell (i := 1) rfl
            have d2 := kd.out.cell (i := 2) rfl
            have d3 := kd.out.cell (i := 3) rfl
            have d4 := kd.out.cell (i := 4) rfl
            have d5 := kd.out.cell (i := 5) rfl
            go_wp2_with fail
            clear b0 b1 b2 b3 b4 b5 d0 d1 d2 d3 d4 d5
            (((with_reducible refine (JN.out _).mono ?_); rintro e w5 ⟨rfl, hb5⟩); replace HB := Lib.hid (HB.out.trans (hb5.mono HB.out.size)); replace kx := Lib.hid (kx.out.keep hb5); replace ky := Lib.hid (ky.out.keep hb5); replace kb := Lib.hid (kb.out.keep hb5); replace kd := Lib.hid (kd.out.keep hb5); clear hb5)
            clear JN kb kd
            go_upto_region 10 with fail
            have hbo := below_new1 w5 (.cells #[.int .i64 u0, .int .i64 u1, .int .i64 u2, .int .i64 v0, .int .i64 v1, .int .i64 v2] 25)
            replace kx := Lib.hid (kx.out.keep hbo)
            replace ky := Lib.hid (ky.out.keep hbo)
            have zo : (w5.alloc (.cells #[.int .i64 u0, .int .i64 u1, .int .i64 u2, .int .i64 v0, .int .i64 v1, .int .i64 v2] 25)).heap.size = w5.heap.size + 1 := by simp
            replace HB := Lib.hid (HB.out.trans (hbo.mono HB.out.size))
            have ko := Lib.hid (Lok.new w5 25 #[.int .i64 u0, .int .i64 u1, .int .i64 u2, .int .i64 v0, .int .i64 v1, .int .i64 v2])
            clear hbo
            generalize w5.alloc (.cells #[.int .i64 u0, .int .i64 u1, .int .i64 u2, .int .i64 v0, .int .i64 v1, .int .i64 v2] 25) = Vo at *
            clear zo
            have x0 := kx.out.cell (i := 0) rfl
            have x1 := kx.out.cell (i := 1) rfl
            have x2 := kx.out.cell (i := 2) rfl
            have y0 := ky.out.cell (i := 0) rfl
            have y1 := ky.out.cell (i := 1) rfl
            have y2 := ky.out.cell (i := 2) rfl
            have o0 := ko.out.cell (i := 0) rfl
            have o1 := ko.out.cell (i := 1) rfl
            have o2 := ko.out.cell (i := 2) rfl
            have o3 := ko.out.cell (i := 3) rfl
            have o4 := ko.out.cell (i := 4) rfl
            have o5 := ko.out.cell (i := 5) rfl
            go_wp2_with fail
            clear x0 x1 x2 y0 y1 y2 o0 o1 o2 o3 o4 o5
            (((with_reducible refine (M3.out _).mono ?_); rintro e w6 ⟨rfl, hb6⟩); replace HB := Lib.hid (HB.out.trans (hb6.mono HB.out.size)); replace kx := Lib.hid (kx.out.keep hb6); replace ky := Lib.hid (ky.out.keep hb6); replace ko := Lib.hid (ko.out.keep hb6); clear hb6)
            clear M3 kx ky ko
            go_wp2_with fail
            (((with_reducible refine (BD.out _).mono ?_); rintro e w7 ⟨rfl, hb7⟩); replace HB := Lib.hid (HB.out.trans (hb7.mono HB.out.size)); clear hb7)
            clear BD
            cases rd with
            | false =>
              go_wp2
              go_ret
              exact ⟨rfl, HB.out⟩
            | true =>
              have e := HU.out rfl
              subst e
              go_wp2
              go_ret
              exact ⟨rfl, HB.out⟩
        · by_cases s2 : h2 < min a2 c2
          · skip
            go_enter Try.func5, Try.ntmps5
            go_upto_region 1 with fail
            have hbx := below_new1 w (.cells #[.int .i64 a1, .int .i64 a2, .int .i64 a3] 23)
            have zx : (w.alloc (.cells #[.int .i64 a1, .int .i64 a2, .int .i64 a3] 23)).heap.size = w.heap.size + 1 := by simp
            have HB := Lib.hid hbx
            have kx := Lib.hid (Lok.new w 23 #[.int .i64 a1, .int .i64 a2, .int .i64 a3])
            clear hbx
            generalize w.alloc (.cells #[.int .i64 a1, .int .i64 a2, .int .i64 a3] 23) = Vx at *
            have hby := below_new1 Vx (.cells #[.int .i64 c1, .int .i64 c2, .int .i64 c3] 23)
            replace kx := Lib.hid (kx.out.keep hby)
            have zy : (Vx.alloc (.cells #[.int .i64 c1, .int .i64 c2, .int .i64 c3] 23)).heap.size = Vx.heap.size + 1 := by simp
            replace HB := Lib.hid (HB.out.trans (hby.mono HB.out.size))
            have ky := Lib.hid (Lok.new Vx 23 #[.int .i64 c1, .int .i64 c2, .int .i64 c3])
            clear hby
            generalize Vx.alloc (.cells #[.int .i64 c1, .int .i64 c2, .int .i64 c3] 23) = Vy at *
            rw [zx] at ky zy
            have hbb := below_new1 Vy (.cells #[.int .i64 l1, .int .i64 l2, .int .i64 l3, .int .i64 h1, .int .i64 h2, .int .i64 h3] 25)
            replace kx := Lib.hid (kx.out.keep hbb)
            replace ky := Lib.hid (ky.out.keep hbb)
            have zb : (Vy.alloc (.cells #[.int .i64 l1, .int .i64 l2, .int .i64 l3, .int .i64 h1, .int .i64 h2, .int .i64 h3] 25)).heap.size = Vy.heap.size + 1 := by simp
            replace HB := Lib.hid (HB.out.trans (hbb.mono HB.out.size))
            have kb := Lib.hid (Lok.new Vy 25 #[.int .i64 l1, .int .i64 l2, .int .i64 l3, .int .i64 h1, .int .i64 h2, .int .i64 h3])
            clear hbb
            generalize Vy.alloc (.cells #[.int .i64 l1, .int .i64 l2, .int .i64 l3, .int .i64 h1, .int .i64 h2, .int .i64 h3] 25) = Vb at *
            rw [zy] at kb zb
            have hbd := below_new1 Vb (.cells #[.int .i64 m1, .int .i64 m2, .int .i64 m3, .int .i64 k1, .int .i64 k2, .int .i64 k3] 25)
            replace kx := Lib.hid (kx.out.keep hbd)
            replace ky := Lib.hid (ky.out.keep hbd)
            replace kb := Lib.hid (kb.out.keep hbd)
            have zd : (Vb.alloc (.cells #[.int .i64 m1, .int .i64 m2, .int .i64 m3, .int .i64 k1, .int .i64 k2, .int .i64 k3] 25)).heap.size = Vb.heap.size + 1 := by simp
            replace HB := Lib.hid (HB.out.trans (hbd.mono HB.out.size))
            have kd := Lib.hid (Lok.new Vb 25 #[.int .i64 m1, .int .i64 m2, .int .i64 m3, .int .i64 k1, .int .i64 k2, .int .i64 k3])
            clear hbd
            generalize Vb.alloc (.cells #[.int .i64 m1, .int .i64 m2, .int .i64 m3, .int .i64 k1, .int .i64 k2, .int .i64 k3] 25) = Vd at *
            rw [zb] at kd
            clear zx zy zb zd
            have x0 := kx.out.cell (i := 0) rfl
            have x1 := kx.out.cell (i := 1) rfl
            have x2 := kx.out.cell (i := 2) rfl
            have y0 := ky.out.cell (i := 0) rfl
            have y1 := ky.out.cell (i := 1) rfl
            have y2 := ky.out.cell (i := 2) rfl
            have b0 := kb.out.cell (i := 0) rfl
            have b1 := kb.out.cell (i := 1) rfl
            have b2 := kb.out.cell (i := 2) rfl
            have b3 := kb.out.cell (i := 3) rfl
            have b4 := kb.out.cell (i := 4) rfl
            have b5 := kb.out.cell (i := 5) rfl
            go_wp2_with fail
            clear x0 x1 x2 y0 y1 y2 b0 b1 b2 b3 b4 b5
            (((with_reducible refine (M1.out _).mono ?_); rintro e w1 ⟨rfl, hb1⟩); replace HB := Lib.hid (HB.out.trans (hb1.mono HB.out.size)); replace kx := Lib.hid (kx.out.keep hb1); replace ky := Lib.hid (ky.out.keep hb1); replace kb := Lib.hid (kb.out.keep hb1); replace kd := Lib.hid (kd.out.keep hb1); clear hb1)
            clear M1
            have x0 := kx.out.cell (i := 0) rfl
            have x1 := kx.out.cell (i := 1) rfl
            have x2 := kx.out.cell (i := 2) rfl
            have y0 := ky.out.cell (i := 0) rfl
            have y1 := ky.out.cell (i := 1) rfl
            have y2 := ky.out.cell (i := 2) rfl
            have b0 := kb.out.cell (i := 0) rfl
            have b1 := kb.out.cell (i := 1) rfl
            have b2 := kb.out.cell (i := 2) rfl
            have b3 := kb.out.cell (i := 3) rfl
            have b4 := kb.out.cell (i := 4) rfl
            have b5 := kb.out.cell (i := 5) rfl
            go_wp2_with fail
            clear x0 x1 x2 y0 y1 y2 b0 b1 b2 b3 b4 b5
            (((with_reducible refine (M2.out _).mono ?_); rintro e w2 ⟨rfl, hb2⟩); replace HB := Lib.hid (HB.out.trans (hb2.mono HB.out.size)); replace kx := Lib.hid (kx.out.keep hb2); replace ky := Lib.hid (ky.out.keep hb2); replace kb := Lib.hid (kb.out.keep hb2); replace kd := Lib.hid (kd.out.keep hb2); clear hb2)
            clear M2
            have b0 := kb.out.cell (i := 0) rfl
            have b1 := kb.out.cell (i := 1) rfl
            have b2 := kb.out.cell (i := 2) rfl
            have b3 := kb.out.cell (i := 3) rfl
            have b4 := kb.out.cell (i := 4) rfl
            have b5 := kb.out.cell (i := 5) rfl
            have x0 := kx.out.cell (i := 0) rfl
            have x1 := kx.out.cell (i := 1) rfl
            have x2 := kx.out.cell (i := 2) rfl
            go_wp2_with fail
            clear b0 b1 b2 b3 b4 b5 x0 x1 x2
            (((with_reducible refine (H1.out _).mono ?_); rintro e w3 ⟨rfl, hb3⟩); replace HB := Lib.hid (HB.out.trans (hb3.mono HB.out.size)); replace kx := Lib.hid (kx.out.keep hb3); replace ky := Lib.hid (ky.out.keep hb3); replace kb := Lib.hid (kb.out.keep hb3); replace kd := Lib.hid (kd.out.keep hb3); clear hb3)
            clear H1
            have b0 := kb.out.cell (i := 0) rfl
            have b1 := kb.out.cell (i := 1) rfl
            have b2 := kb.out.cell (i := 2) rfl
            have b3 := kb.out.cell (i := 3) rfl
            have b4 := kb.out.cell (i := 4) rfl
            have b5 := kb.out.cell (i := 5) rfl
            have y0 := ky.out.cell (i := 0) rfl
            have y1 := ky.out.cell (i := 1) rfl
            have y2 := ky.out.cell (i := 2) rfl
            go_wp2_with fail
            clear b0 b1 b2 b3 b4 b5 y0 y1 y2
            (((with_reducible refine (H2.out _).mono ?_); rintro e w4 ⟨rfl, hb4⟩); replace HB := Lib.hid (HB.out.trans (hb4.mono HB.out.size)); replace kx := Lib.hid (kx.out.keep hb4); replace ky := Lib.hid (ky.out.keep hb4); replace kb := Lib.hid (kb.out.keep hb4); replace kd := Lib.hid (kd.out.keep hb4); clear hb4)
            clear H2
            have x0 := kx.out.cell (i := 0) rfl
            have x1 := kx.out.cell (i := 1) rfl
            have x2 := kx.out.cell (i := 2) rfl
            have y0 := ky.out.cell (i := 0) rfl
            have y1 := ky.out.cell (i := 1) rfl
            have y2 := ky.out.cell (i := 2) rfl
            have b0 := kb.out.cell (i := 0) rfl
            have b1 := kb.out.cell (i := 1) rfl
            have b2 := kb.out.cell (i := 2) rfl
            have b3 := kb.out.cell (i := 3) rfl
            have b4 := kb.out.cell (i := 4) rfl
            have b5 := kb.out.cell (i := 5) rfl
            go_upto_region 9 with fail
            clear x0 x1 x2 y0 y1 y2 b0 b1 b2 b3 b4 b5
            have b0 := kb.out.cell (i := 0) rfl
            have b1 := kb.out.cell (i := 1) rfl
            have b2 := kb.out.cell (i := 2) rfl
            have b3 := kb.out.cell (i := 3) rfl
            have b4 := kb.out.cell (i := 4) rfl
            have b5 := kb.out.cell (i := 5) rfl
            have d0 := kd.out.cell (i := 0) rfl
            have d1 := kd.out.cell (i := 1) rfl
            have d2 := kd.out.cell (i := 2) rfl
            have d3 := kd.out.cell (i := 3) rfl
            have d4 := kd.out.cell (i := 4) rfl
            have d5 := kd.out.cell (i := 5) rfl
            go_wp2_with fail
            clear b0 b1 b2 b3 b4 b5 d0 d1 d2 d3 d4 d5
            (((with_reducible refine (JN.out _).mono ?_); rintro e w5 ⟨rfl, hb5⟩); replace HB := Lib.hid (HB.out.trans (hb5.mono HB.out.size)); replace kx := Lib.hid (kx.out.keep hb5); replace ky := Lib.hid (ky.out.keep hb5); replace kb := Lib.hid (kb.out.keep hb5); replace kd := Lib.hid (kd.out.keep hb5); clear hb5)
            clear JN kb kd
            go_upto_region 10 with fail
            have hbo := below_new1 w5 (.cells #[.int .i64 u0, .int .i64 u1, .int .i64 u2, .int .i64 v0, .int .i64 v1, .int .i64 v2] 25)
            replace kx := Lib.hid (kx.out.keep hbo)
            replace ky := Lib.hid (ky.out.keep hbo)
            have zo : (w5.alloc (.cells #[.int .i64 u0, .int .i64 u1, .int .i64 u2, .int .i64 v0, .int .i64 v1, .int .i64 v2] 25)).heap.size = w5.heap.size + 1 := by simp
            replace HB := Lib.hid (HB.out.trans (hbo.mono HB.out.size))
            have ko := Lib.hid (Lok.new w5 25 #[.int .i64 u0, .int .i64 u1, .int .i64 u2, .int .i64 v0, .int .i64 v1, .int .i64 v2])
            clear hbo
            generalize w5.alloc (.cells #[.int .i64 u0, .int .i64 u1, .int .i64 u2, .int .i64 v0, .int .i64 v1, .int .i64 v2] 25) = Vo at *
            clear zo
            have x0 := kx.out.cell (i := 0) rfl
            have x1 := kx.out.cell (i := 1) rfl
            have x2 := kx.out.cell (i := 2) rfl
            have y0 := ky.out.cell (i := 0) rfl
            have y1 := ky.out.cell (i := 1) rfl
            have y2 := ky.out.cell (i := 2) rfl
            have o0 := ko.out.cell (i := 0) rfl
            have o1 := ko.out.cell (i := 1) rfl
            have o2 := ko.out.cell (i := 2) rfl
            have o3 := ko.out.cell (i := 3) rfl
            have o4 := ko.out.cell (i := 4) rfl
            have o5 := ko.out.cell (i := 5) rfl
            go_wp2_with fail
            clear x0 x1 x2 y0 y1 y2 o0 o1 o2 o3 o4 o5
            (((with_reducible refine (M3.out _).mono ?_); rintro e w6 ⟨rfl, hb6⟩); replace HB := Lib.hid (HB.out.trans (hb6.mono HB.out.size)); replace kx := Lib.hid (kx.out.keep hb6); replace ky := Lib.hid (ky.out.keep hb6); replace ko := Lib.hid (ko.out.keep hb6); clear hb6)
            clear M3 kx ky ko
            go_wp2_with fail
            (((with_reducible refine (BD.out _).mono ?_); rintro e w7 ⟨rfl, hb7⟩); replace HB := Lib.hid (HB.out.trans (hb7.mono HB.out.size)); clear hb7)
            clear BD
            cases rd with
            | false =>
              go_wp2
              go_ret
              exact ⟨rfl, HB.out⟩
            | true =>
              have e := HU.out rfl
              subst e
              go_wp2
              go_ret
              exact ⟨rfl, HB.out⟩
          · skip
            go_enter Try.func5, Try.ntmps5
            go_upto_region 1 with fail
            have hbx := below_new1 w (.cells #[.int .i64 a1, .int .i64 a2, .int .i64 a3] 23)
            have zx : (w.alloc (.cells #[.int .i64 a1, .int .i64 a2, .int .i64 a3] 23)).heap.size = w.heap.size + 1 := by simp
            have HB := Lib.hid hbx
            have kx := Lib.hid (Lok.new w 23 #[.int .i64 a1, .int .i64 a2, .int .i64 a3])
            clear hbx
            generalize w.alloc (.cells #[.int .i64 a1, .int .i64 a2, .int .i64 a3] 23) = Vx at *
            have hby := below_new1 Vx (.cells #[.int .i64 c1, .int .i64 c2, .int .i64 c3] 23)
            replace kx := Lib.hid (kx.out.keep hby)
            have zy : (Vx.alloc (.cells #[.int .i64 c1, .int .i64 c2, .int .i64 c3] 23)).heap.size = Vx.heap.size + 1 := by simp
            replace HB := Lib.hid (HB.out.trans (hby.mono HB.out.size))
            have ky := Lib.hid (Lok.new Vx 23 #[.int .i64 c1, .int .i64 c2, .int .i64 c3])
            clear hby
            generalize Vx.alloc (.cells #[.int .i64 c1, .int .i64 c2, .int .i64 c3] 23) = Vy at *
            rw [zx] at ky zy
            have hbb := below_new1 Vy (.cells #[.int .i64 l1, .int .i64 l2, .int .i64 l3, .int .i64 h1, .int .i64 h2, .int .i64 h3] 25)
            replace kx := Lib.hid (kx.out.keep hbb)
            replace ky := Lib.hid (ky.out.keep hbb)
            have zb : (Vy.alloc (.cells #[.int .i64 l1, .int .i64 l2, .int .i64 l3, .int .i64 h1, .int .i64 h2, .int .i64 h3] 25)).heap.size = Vy.heap.size + 1 := by simp
            replace HB := Lib.hid (HB.out.trans (hbb.mono HB.out.size))
            have kb := Lib.hid (Lok.new Vy 25 #[.int .i64 l1, .int .i64 l2, .int .i64 l3, .int .i64 h1, .int .i64 h2, .int .i64 h3])
            clear hbb
            generalize Vy.alloc (.cells #[.int .i64 l1, .int .i64 l2, .int .i64 l3, .int .i64 h1, .int .i64 h2, .int .i64 h3] 25) = Vb at *
            rw [zy] at kb zb
            have hbd := below_new1 Vb (.cells #[.int .i64 m1, .int .i64 m2, .int .i64 m3, .int .i64 k1, .int .i64 k2, .int .i64 k3] 25)
            replace kx := Lib.hid (kx.out.keep hbd)
            replace ky := Lib.hid (ky.out.keep hbd)
            replace kb := Lib.hid (kb.out.keep hbd)
            have zd : (Vb.alloc (.cells #[.int .i64 m1, .int .i64 m2, .int .i64 m3, .int .i64 k1, .int .i64 k2, .int .i64 k3] 25)).heap.size = Vb.heap.size + 1 := by simp
            replace HB := Lib.hid (HB.out.trans (hbd.mono HB.out.size))
            have kd := Lib.hid (Lok.new Vb 25 #[.int .i64 m1, .int .i64 m2, .int .i64 m3, .int .i64 k1, .int .i64 k2, .int .i64 k3])
            clear hbd
            generalize Vb.alloc (.cells #[.int .i64 m1, .int .i64 m2, .int .i64 m3, .int .i64 k1, .int .i64 k2, .int .i64 k3] 25) = Vd at *
            rw [zb] at kd
            clear zx zy zb zd
            have x0 := kx.out.cell (i := 0) rfl
            have x1 := kx.out.cell (i := 1) rfl
            have x2 := kx.out.cell (i := 2) rfl
            have y0 := ky.out.cell (i := 0) rfl
            have y1 := ky.out.cell (i := 1) rfl
            have y2 := ky.out.cell (i := 2) rfl
            have b0 := kb.out.cell (i := 0) rfl
            have b1 := kb.out.cell (i := 1) rfl
            have b2 := kb.out.cell (i := 2) rfl
            have b3 := kb.out.cell (i := 3) rfl
            have b4 := kb.out.cell (i := 4) rfl
            have b5 := kb.out.cell (i := 5) rfl
            go_wp2_with fail
            clear x0 x1 x2 y0 y1 y2 b0 b1 b2 b3 b4 b5
            (((with_reducible refine (M1.out _).mono ?_); rintro e w1 ⟨rfl, hb1⟩); replace HB := Lib.hid (HB.out.trans (hb1.mono HB.out.size)); replace kx := Lib.hid (kx.out.keep hb1); replace ky := Lib.hid (ky.out.keep hb1); replace kb := Lib.hid (kb.out.keep hb1); replace kd := Lib.hid (kd.out.keep hb1); clear hb1)
            clear M1
            have x0 := kx.out.cell (i := 0) rfl
            have x1 := kx.out.cell (i := 1) rfl
            have x2 := kx.out.cell (i := 2) rfl
            have y0 := ky.out.cell (i := 0) rfl
            have y1 := ky.out.cell (i := 1) rfl
            have y2 := ky.out.cell (i := 2) rfl
            have b0 := kb.out.cell (i := 0) rfl
            have b1 := kb.out.cell (i := 1) rfl
            have b2 := kb.out.cell (i := 2) rfl
            have b3 := kb.out.cell (i := 3) rfl
            have b4 := kb.out.cell (i := 4) rfl
            have b5 := kb.out.cell (i := 5) rfl
            go_wp2_with fail
            clear x0 x1 x2 y0 y1 y2 b0 b1 b2 b3 b4 b5
            (((with_reducible refine (M2.out _).mono ?_); rintro e w2 ⟨rfl, hb2⟩); replace HB := Lib.hid (HB.out.trans (hb2.mono HB.out.size)); replace kx := Lib.hid (kx.out.keep hb2); replace ky := Lib.hid (ky.out.keep hb2); replace kb := Lib.hid (kb.out.keep hb2); replace kd := Lib.hid (kd.out.keep hb2); clear hb2)
            clear M2
            have b0 := kb.out.cell (i := 0) rfl
            have b1 := kb.out.cell (i := 1) rfl
            have b2 := kb.out.cell (i := 2) rfl
            have b3 := kb.out.cell (i := 3) rfl
            have b4 := kb.out.cell (i := 4) rfl
            have b5 := kb.out.cell (i := 5) rfl
            have x0 := kx.out.cell (i := 0) rfl
            have x1 := kx.out.cell (i := 1) rfl
            have x2 := kx.out.cell (i := 2) rfl
            go_wp2_with fail
            clear b0 b1 b2 b3 b4 b5 x0 x1 x2
            (((with_reducible refine (H1.out _).mono ?_); rintro e w3 ⟨rfl, hb3⟩); replace HB := Lib.hid (HB.out.trans (hb3.mono HB.out.size)); replace kx := Lib.hid (kx.out.keep hb3); replace ky := Lib.hid (ky.out.keep hb3); replace kb := Lib.hid (kb.out.keep hb3); replace kd := Lib.hid (kd.out.keep hb3); clear hb3)
            clear H1
            have b0 := kb.out.cell (i := 0) rfl
            have b1 := kb.out.cell (i := 1) rfl
            have b2 := kb.out.cell (i := 2) rfl
            have b3 := kb.out.cell (i := 3) rfl
            have b4 := kb.out.cell (i := 4) rfl
            have b5 := kb.out.cell (i := 5) rfl
            have y0 := ky.out.cell (i := 0) rfl
            have y1 := ky.out.cell (i := 1) rfl
            have y2 := ky.out.cell (i := 2) rfl
            go_wp2_with fail
            clear b0 b1 b2 b3 b4 b5 y0 y1 y2
            (((with_reducible refine (H2.out _).mono ?_); rintro e w4 ⟨rfl, hb4⟩); replace HB := Lib.hid (HB.out.trans (hb4.mono HB.out.size)); replace kx := Lib.hid (kx.out.keep hb4); replace ky := Lib.hid (ky.out.keep hb4); replace kb := Lib.hid (kb.out.keep hb4); replace kd := Lib.hid (kd.out.keep hb4); clear hb4)
            clear H2
            have x0 := kx.out.cell (i := 0) rfl
            have x1 := kx.out.cell (i := 1) rfl
            have x2 := kx.out.cell (i := 2) rfl
            have y0 := ky.out.cell (i := 0) rfl
            have y1 := ky.out.cell (i := 1) rfl
            have y2 := ky.out.cell (i := 2) rfl
            have b0 := kb.out.cell (i := 0) rfl
            have b1 := kb.out.cell (i := 1) rfl
            have b2 := kb.out.cell (i := 2) rfl
            have b3 := kb.out.cell (i := 3) rfl
            have b4 := kb.out.cell (i := 4) rfl
            have b5 := kb.out.cell (i := 5) rfl
            go_upto_region 9 with fail
            clear x0 x1 x2 y0 y1 y2 b0 b1 b2 b3 b4 b5
            have b0 := kb.out.cell (i := 0) rfl
            have b1 := kb.out.cell (i := 1) rfl
            have b2 := kb.out.cell (i := 2) rfl
            have b3 := kb.out.cell (i := 3) rfl
            have b4 := kb.out.cell (i := 4) rfl
            have b5 := kb.out.cell (i := 5) rfl
            have d0 := kd.out.cell (i := 0) rfl
            have d1 := kd.out.cell (i := 1) rfl
            have d2 := kd.out.cell (i := 2) rfl
            have d3 := kd.out.cell (i := 3) rfl
            have d4 := kd.out.cell (i := 4) rfl
            have d5 := kd.out.cell (i := 5) rfl
            go_wp2_with fail
            clear b0 b1 b2 b3 b4 b5 d0 d1 d2 d3 d4 d5
            (((with_reducible refine (JN.out _).mono ?_); rintro e w5 ⟨rfl, hb5⟩); replace HB := Lib.hid (HB.out.trans (hb5.mono HB.out.size)); replace kx := Lib.hid (kx.out.keep hb5); replace ky := Lib.hid (ky.out.keep hb5); replace kb := Lib.hid (kb.out.keep hb5); replace kd := Lib.hid (kd.out.keep hb5); clear hb5)
            clear JN kb kd
            go_upto_region 10 with fail
            have hbo := below_new1 w5 (.cells #[.int .i64 u0, .int .i64 u1, .int .i64 u2, .int .i64 v0, .int .i64 v1, .int .i64 v2] 25)
            replace kx := Lib.hid (kx.out.keep hbo)
            replace ky := Lib.hid (ky.out.keep hbo)
            have zo : (w5.alloc (.cells #[.int .i64 u0, .int .i64 u1, .int .i64 u2, .int .i64 v0, .int .i64 v1, .int .i64 v2] 25)).heap.size = w5.heap.size + 1 := by simp
            replace HB := Lib.hid (HB.out.trans (hbo.mono HB.out.size))
            have ko := Lib.hid (Lok.new w5 25 #[.int .i64 u0, .int .i64 u1, .int .i64 u2, .int .i64 v0, .int .i64 v1, .int .i64 v2])
            clear hbo
            generalize w5.alloc (.cells #[.int .i64 u0, .int .i64 u1, .int .i64 u2, .int .i64 v0, .int .i64 v1, .int .i64 v2] 25) = Vo at *
            clear zo
            have x0 := kx.out.cell (i := 0) rfl
            have x1 := kx.out.cell (i := 1) rfl
            have x2 := kx.out.cell (i := 2) rfl
            have y0 := ky.out.cell (i := 0) rfl
            have y1 := ky.out.cell (i := 1) rfl
            have y2 := ky.out.cell (i := 2) rfl
            have o0 := ko.out.cell (i := 0) rfl
            have o1 := ko.out.cell (i := 1) rfl
            have o2 := ko.out.cell (i := 2) rfl
            have o3 := ko.out.cell (i := 3) rfl
            have o4 := ko.out.cell (i := 4) rfl
            have o5 := ko.out.cell (i := 5) rfl
            go_wp2_with fail
            clear x0 x1 x2 y0 y1 y2 o0 o1 o2 o3 o4 o5
            (((with_reducible refine (M3.out _).mono ?_); rintro e w6 ⟨rfl, hb6⟩); replace HB := Lib.hid (HB.out.trans (hb6.mono HB.out.size)); replace kx := Lib.hid (kx.out.keep hb6); replace ky := Lib.hid (ky.out.keep hb6); replace ko := Lib.hid (ko.out.keep hb6); clear hb6)
            clear M3 kx ky ko
            go_wp2_with fail
            (((with_reducible refine (BD.out _).mono ?_); rintro e w7 ⟨rfl, hb7⟩); replace HB := Lib.hid (HB.out.trans (hb7.mono HB.out.size)); clear hb7)
            clear BD
            cases rd with
            | false =>
              go_wp2
              go_ret
              exact ⟨rfl, HB.out⟩
            | true =>
              have e := HU.out rfl
              subst e
              go_wp2
              go_ret
              exact ⟨rfl, HB.out⟩
end Go.Proofs.Ytfghjfgdjlkooaa
