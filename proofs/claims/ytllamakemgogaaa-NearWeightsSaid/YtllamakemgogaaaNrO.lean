/-
  NearWeights, walked. (gen/NrO.py)
-/
import Derived.Test.YtllamakemgogaaaNrN
import Derived.Test.YtllamakemgogaaaNrK
namespace Go.Proofs.Ytllamakemgogaaa
open Go.RowKit

theorem leaves {k0 k1 k2 r i : Int} (hi : r + 1 = i) (hb : -1 ≤ r ∧ r ≤ 1) (h : (0 ≤ r ↔ 0 ≤ k0 ∧ 0 ≤ k1 ∧ 0 ≤ k2) ∧ (r = 1 ↔ 0 < k0 ∧ 0 < k1 ∧ 0 < k2)) :
    (¬ 0 ≤ k0 ∧ ¬ 0 < k0 ∧ i = 0) ∨ (0 ≤ k0 ∧ ¬ 0 < k0 ∧ ¬ 0 ≤ k1 ∧ i = 0) ∨ (0 ≤ k0 ∧ ¬ 0 < k0 ∧ 0 ≤ k1 ∧ ¬ 0 ≤ k2 ∧ i = 0) ∨ (0 ≤ k0 ∧ ¬ 0 < k0 ∧ 0 ≤ k1 ∧ 0 ≤ k2 ∧ i = 1) ∨ (0 ≤ k0 ∧ 0 < k0 ∧ ¬ 0 ≤ k1 ∧ ¬ 0 < k1 ∧ i = 0) ∨ (0 ≤ k0 ∧ 0 < k0 ∧ 0 ≤ k1 ∧ ¬ 0 < k1 ∧ ¬ 0 ≤ k2 ∧ i = 0) ∨ (0 ≤ k0 ∧ 0 < k0 ∧ 0 ≤ k1 ∧ ¬ 0 < k1 ∧ 0 ≤ k2 ∧ i = 1) ∨ (0 ≤ k0 ∧ 0 < k0 ∧ 0 ≤ k1 ∧ 0 < k1 ∧ ¬ 0 ≤ k2 ∧ ¬ 0 < k2 ∧ i = 0) ∨ (0 ≤ k0 ∧ 0 < k0 ∧ 0 ≤ k1 ∧ 0 < k1 ∧ 0 ≤ k2 ∧ ¬ 0 < k2 ∧ i = 1) ∨ (0 ≤ k0 ∧ 0 < k0 ∧ 0 ≤ k1 ∧ 0 < k1 ∧ 0 ≤ k2 ∧ 0 < k2 ∧ i = 2) := by
  obtain ⟨h1, h2⟩ := h
  have n1 : ¬ (0 ≤ k0 ∧ 0 ≤ k1 ∧ 0 ≤ k2) → i = 0 := fun q => by have := mt h1.1 q; omega
  have n2 : (0 ≤ k0 ∧ 0 ≤ k1 ∧ 0 ≤ k2) → ¬ (0 < k0 ∧ 0 < k1 ∧ 0 < k2) → i = 1 := fun q q2 => by have := h1.2 q; have := mt h2.1 q2; omega
  have n3 : (0 < k0 ∧ 0 < k1 ∧ 0 < k2) → i = 2 := fun q => by have := h2.2 q; omega
  clear h1 h2 hi hb
  rcases Int.lt_trichotomy k0 0 with u | u | u <;> rcases Int.lt_trichotomy k1 0 with v | v | v <;> rcases Int.lt_trichotomy k2 0 with z | z | z
  · exact .inl ⟨by omega, by omega, n1 (by omega)⟩
  · exact .inl ⟨by omega, by omega, n1 (by omega)⟩
  · exact .inl ⟨by omega, by omega, n1 (by omega)⟩
  · exact .inl ⟨by omega, by omega, n1 (by omega)⟩
  · exact .inl ⟨by omega, by omega, n1 (by omega)⟩
  · exact .inl ⟨by omega, by omega, n1 (by omega)⟩
  · exact .inl ⟨by omega, by omega, n1 (by omega)⟩
  · exact .inl ⟨by omega, by omega, n1 (by omega)⟩
  · exact .inl ⟨by omega, by omega, n1 (by omega)⟩
  · exact .inr (.inl ⟨by omega, by omega, by omega, n1 (by omega)⟩)
  · exact .inr (.inl ⟨by omega, by omega, by omega, n1 (by omega)⟩)
  · exact .inr (.inl ⟨by omega, by omega, by omega, n1 (by omega)⟩)
  · exact .inr (.inr (.inl ⟨by omega, by omega, by omega, by omega, n1 (by omega)⟩))
  · exact .inr (.inr (.inr (.inl ⟨by omega, by omega, by omega, by omega, n2 ⟨by omega, by omega, by omega⟩ (by omega)⟩)))
  · exact .inr (.inr (.inr (.inl ⟨by omega, by omega, by omega, by omega, n2 ⟨by omega, by omega, by omega⟩ (by omega)⟩)))
  · exact .inr (.inr (.inl ⟨by omega, by omega, by omega, by omega, n1 (by omega)⟩))
  · exact .inr (.inr (.inr (.inl ⟨by omega, by omega, by omega, by omega, n2 ⟨by omega, by omega, by omega⟩ (by omega)⟩)))
  · exact .inr (.inr (.inr (.inl ⟨by omega, by omega, by omega, by omega, n2 ⟨by omega, by omega, by omega⟩ (by omega)⟩)))
  · exact .inr (.inr (.inr (.inr (.inl ⟨by omega, by omega, by omega, by omega, n1 (by omega)⟩))))
  · exact .inr (.inr (.inr (.inr (.inl ⟨by omega, by omega, by omega, by omega, n1 (by omega)⟩))))
  · exact .inr (.inr (.inr (.inr (.inl ⟨by omega, by omega, by omega, by omega, n1 (by omega)⟩))))
  · exact .inr (.inr (.inr (.inr (.inr (.inl ⟨by omega, by omega, by omega, by omega, by omega, n1 (by omega)⟩)))))
  · exact .inr (.inr (.inr (.inr (.inr (.inr (.inl ⟨by omega, by omega, by omega, by omega, by omega, n2 ⟨by omega, by omega, by omega⟩ (by omega)⟩))))))
  · exact .inr (.inr (.inr (.inr (.inr (.inr (.inl ⟨by omega, by omega, by omega, by omega, by omega, n2 ⟨by omega, by omega, by omega⟩ (by omega)⟩))))))
  · exact .inr (.inr (.inr (.inr (.inr (.inr (.inr (.inl ⟨by omega, by omega, by omega, by omega, by omega, by omega, n1 (by omega)⟩)))))))
  · exact .inr (.inr (.inr (.inr (.inr (.inr (.inr (.inr (.inl ⟨by omega, by omega, by omega, by omega, by omega, by omega, n2 ⟨by omega, by omega, by omega⟩ (by omega)⟩))))))))
  · exact .inr (.inr (.inr (.inr (.inr (.inr (.inr (.inr (.inr (⟨by omega, by omega, by omega, by omega, by omega, by omega, n3 ⟨by omega, by omega, by omega⟩⟩)))))))))
set_option maxRecDepth 100000 in
set_option maxHeartbeats 8000000 in
theorem law_weights (x y a1 a2 b1 b2 c1 c2 : Int) (w : World) :
    Calls Try.prog 6 #[.agg #[.int .i64 x, .int .i64 y], .agg #[.int .i64 a1, .int .i64 a2, .int .i64 b1, .int .i64 b2, .int .i64 c1, .int .i64 c2]] w fun e' w' => e' = .returned (.bool true) ∧ Below w.heap.size w w' := by
  have HB := Lib.hid (Below.refl w.heap.size w)
  have ME := Lib.hid (fun W => neared_any W)
  have WT := Lib.hid (fun W => weights_any x y a1 a2 b1 b2 c1 c2 W)
  have IN := Lib.hid (fun W => in_any x y a1 a2 b1 b2 c1 c2 W)
  cases hs : s2 x y with
  | false =>
    simp only [hs, gV_no, iE_no] at WT IN
    rw [show iV false (rT a1 a2 b1 b2 c1 c2) (r1 a1 a2 b1 b2 c1 c2 x y) = 0 from rfl] at IN
    clear hs
    go_enter Try.func6, Try.ntmps6
    go_upto_region 1 with fail
    have hbp := below_new1 w (.cells #[.int .i64 x, .int .i64 y] 23)
    have zp : (w.alloc (.cells #[.int .i64 x, .int .i64 y] 23)).heap.size = w.heap.size + 1 := by simp
    have HB := Lib.hid hbp
    have kp := Lib.hid (Lok.new w 23 #[.int .i64 x, .int .i64 y])
    clear hbp
    generalize w.alloc (.cells #[.int .i64 x, .int .i64 y] 23) = Vp at *
    have hbt := below_new1 Vp (.cells #[.int .i64 a1, .int .i64 a2, .int .i64 b1, .int .i64 b2, .int .i64 c1, .int .i64 c2] 24)
    replace kp := Lib.hid (kp.out.keep hbt)
    have zt : (Vp.alloc (.cells #[.int .i64 a1, .int .i64 a2, .int .i64 b1, .int .i64 b2, .int .i64 c1, .int .i64 c2] 24)).heap.size = Vp.heap.size + 1 := by simp
    replace HB := Lib.hid (HB.out.trans (hbt.mono HB.out.size))
    have kt := Lib.hid (Lok.new Vp 24 #[.int .i64 a1, .int .i64 a2, .int .i64 b1, .int .i64 b2, .int .i64 c1, .int .i64 c2])
    clear hbt
    generalize Vp.alloc (.cells #[.int .i64 a1, .int .i64 a2, .int .i64 b1, .int .i64 b2, .int .i64 c1, .int .i64 c2] 24) = Vt at *
    rw [zp] at kt
    clear zp zt
    have p0 := kp.out.cell (i := 0) rfl
    have p1 := kp.out.cell (i := 1) rfl
    have t0 := kt.out.cell (i := 0) rfl
    have t1 := kt.out.cell (i := 1) rfl
    have t2 := kt.out.cell (i := 2) rfl
    have t3 := kt.out.cell (i := 3) rfl
    have t4 := kt.out.cell (i := 4) rfl
    have t5 := kt.out.cell (i := 5) rfl
    go_wp2_with fail
    clear p0 p1 t0 t1 t2 t3 t4 t5
    (((with_reducible refine (WT.out _).mono ?_); rintro e w1 ⟨rfl, hb1⟩); replace HB := Lib.hid (HB.out.trans (hb1.mono HB.out.size)); replace kp := Lib.hid (kp.out.keep hb1); replace kt := Lib.hid (kt.out.keep hb1); clear hb1)
    go_upto_region 2 with fail
    have hbm := below_new1 w1 (.cells #[.int .i64 0, .int .i64 0, .int .i64 0] 35)
    replace kp := Lib.hid (kp.out.keep hbm)
    replace kt := Lib.hid (kt.out.keep hbm)
    have zm : (w1.alloc (.cells #[.int .i64 0, .int .i64 0, .int .i64 0] 35)).heap.size = w1.heap.size + 1 := by simp
    replace HB := Lib.hid (HB.out.trans (hbm.mono HB.out.size))
    have km := Lib.hid (Lok.new w1 35 #[.int .i64 0, .int .i64 0, .int .i64 0])
    clear hbm
    generalize w1.alloc (.cells #[.int .i64 0, .int .i64 0, .int .i64 0] 35) = Vm at *
    clear zm
    generalize w1.heap.size = gm at *
    have p0 := kp.out.cell (i := 0) rfl
    have p1 := kp.out.cell (i := 1) rfl
    have t0 := kt.out.cell (i := 0) rfl
    have t1 := kt.out.cell (i := 1) rfl
    have t2 := kt.out.cell (i := 2) rfl
    have t3 := kt.out.cell (i := 3) rfl
    have t4 := kt.out.cell (i := 4) rfl
    have t5 := kt.out.cell (i := 5) rfl
    go_wp2_with fail
    clear p0 p1 t0 t1 t2 t3 t4 t5
    (((with_reducible refine (IN.out _).mono ?_); rintro e w2 ⟨rfl, hb2⟩); replace HB := Lib.hid (HB.out.trans (hb2.mono HB.out.size)); replace kp := Lib.hid (kp.out.keep hb2); replace kt := Lib.hid (kt.out.keep hb2); replace km := Lib.hid (km.out.keep hb2); clear hb2)
    go_wp2_with fail
    (((with_reducible refine (ME.out _).mono ?_); rintro e w3 ⟨rfl, hb3⟩); replace HB := Lib.hid (HB.out.trans (hb3.mono HB.out.size)); clear hb3)
    go_wp2
    go_ret
    exact ⟨rfl, HB.out⟩
  | true =>
    cases ha : rT a1 a2 b1 b2 c1 c2 with
    | false =>
      simp only [hs, ha, gV_arg, iE_arg] at WT IN
      rw [show iV true false (r1 a1 a2 b1 b2 c1 c2 x y) = 0 from rfl] at IN
      clear hs ha
      go_enter Try.func6, Try.ntmps6
      go_upto_region 1 with fail
      have hbp := below_new1 w (.cells #[.int .i64 x, .int .i64 y] 23)
      have zp : (w.alloc (.cells #[.int .i64 x, .int .i64 y] 23)).heap.size = w.heap.size + 1 := by simp
      have HB := Lib.hid hbp
      have kp := Lib.hid (Lok.new w 23 #[.int .i64 x, .int .i64 y])
      clear hbp
      generalize w.alloc (.cells #[.int .i64 x, .int .i64 y] 23) = Vp at *
      have hbt := below_new1 Vp (.cells #[.int .i64 a1, .int .i64 a2, .int .i64 b1, .int .i64 b2, .int .i64 c1, .int .i64 c2] 24)
      replace kp := Lib.hid (kp.out.keep hbt)
      have zt : (Vp.alloc (.cells #[.int .i64 a1, .int .i64 a2, .int .i64 b1, .int .i64 b2, .int .i64 c1, .int .i64 c2] 24)).heap.size = Vp.heap.size + 1 := by simp
      replace HB := Lib.hid (HB.out.trans (hbt.mono HB.out.size))
      have kt := Lib.hid (Lok.new Vp 24 #[.int .i64 a1, .int .i64 a2, .int .i64 b1, .int .i64 b2, .int .i64 c1, .int .i64 c2])
      clear hbt
      generalize Vp.alloc (.cells #[.int .i64 a1, .int .i64 a2, .int .i64 b1, .int .i64 b2, .int .i64 c1, .int .i64 c2] 24) = Vt at *
      rw [zp] at kt
      clear zp zt
      have p0 := kp.out.cell (i := 0) rfl
      have p1 := kp.out.cell (i := 1) rfl
      have t0 := kt.out.cell (i := 0) rfl
      have t1 := kt.out.cell (i := 1) rfl
      have t2 := kt.out.cell (i := 2) rfl
      have t3 := kt.out.cell (i := 3) rfl
      have t4 := kt.out.cell (i := 4) rfl
      have t5 := kt.out.cell (i := 5) rfl
      go_wp2_with fail
      clear p0 p1 t0 t1 t2 t3 t4 t5
      (((with_reducible refine (WT.out _).mono ?_); rintro e w1 ⟨rfl, hb1⟩); replace HB := Lib.hid (HB.out.trans (hb1.mono HB.out.size)); replace kp := Lib.hid (kp.out.keep hb1); replace kt := Lib.hid (kt.out.keep hb1); clear hb1)
      go_upto_region 2 with fail
      have hbm := below_new1 w1 (.cells #[.int .i64 0, .int .i64 0, .int .i64 0] 35)
      replace kp := Lib.hid (kp.out.keep hbm)
      replace kt := Lib.hid (kt.out.keep hbm)
      have zm : (w1.alloc (.cells #[.int .i64 0, .int .i64 0, .int .i64 0] 35)).heap.size = w1.heap.size + 1 := by simp
      replace HB := Lib.hid (HB.out.trans (hbm.mono HB.out.size))
      have km := Lib.hid (Lok.new w1 35 #[.int .i64 0, .int .i64 0, .int .i64 0])
      clear hbm
      generalize w1.alloc (.cells #[.int .i64 0, .int .i64 0, .int .i64 0] 35) = Vm at *
      clear zm
      generalize w1.heap.size = gm at *
      have p0 := kp.out.cell (i := 0) rfl
      have p1 := kp.out.cell (i := 1) rfl
      have t0 := kt.out.cell (i := 0) rfl
      have t1 := kt.out.cell (i := 1) rfl
      have t2 := kt.out.cell (i := 2) rfl
      have t3 := kt.out.cell (i := 3) rfl
      have t4 := kt.out.cell (i := 4) rfl
      have t5 := kt.out.cell (i := 5) rfl
      go_wp2_with fail
      clear p0 p1 t0 t1 t2 t3 t4 t5
      (((with_reducible refine (IN.out _).mono ?_); rintro e w2 ⟨rfl, hb2⟩); replace HB := Lib.hid (HB.out.trans (hb2.mono HB.out.size)); replace kp := Lib.hid (kp.out.keep hb2); replace kt := Lib.hid (kt.out.keep hb2); replace km := Lib.hid (km.out.keep hb2); clear hb2)
      go_wp2_with fail
      (((with_reducible refine (ME.out _).mono ?_); rintro e w3 ⟨rfl, hb3⟩); replace HB := Lib.hid (HB.out.trans (hb3.mono HB.out.size)); clear hb3)
      go_wp2
      go_ret
      exact ⟨rfl, HB.out⟩
    | true =>
      obtain ⟨b0, b1', b2', b3⟩ := w_bd hs ha
      have hin := wg_in (x := x) (y := y) (rT_iff.1 ha).2.2.2
      have hsum := wg_sum (a1 := a1) (a2 := a2) (b1 := b1) (b2 := b2) (c1 := c1) (c2 := c2) x y
      have hx := wg_x (a1 := a1) (a2 := a2) (b1 := b1) (b2 := b2) (c1 := c1) (c2 := c2) x y
      have hy := wg_y (a1 := a1) (a2 := a2) (b1 := b1) (b2 := b2) (c1 := c1) (c2 := c2) x y
      have hb := in_bd a1 a2 b1 b2 c1 c2 x y
      simp only [hs, ha, gV_yes, iE_yes] at WT IN
      rw [show iV true true (r1 a1 a2 b1 b2 c1 c2 x y) = r1 a1 a2 b1 b2 c1 c2 x y + 1 from rfl] at IN
      rw [show wg (ar a1 a2 b1 b2 c1 c2) (ar x y b1 b2 c1 c2) = wA x y a1 a2 b1 b2 c1 c2 from rfl, show wg (ar a1 a2 b1 b2 c1 c2) (ar x y c1 c2 a1 a2) = wB x y a1 a2 b1 b2 c1 c2 from rfl, show wg (ar a1 a2 b1 b2 c1 c2) (ar x y a1 a2 b1 b2) = wC x y a1 a2 b1 b2 c1 c2 from rfl] at hin hsum hx hy
      rw [show wg (ar a1 a2 b1 b2 c1 c2) (ar a1 a2 b1 b2 c1 c2) = wW a1 a2 b1 b2 c1 c2 from rfl] at hsum hx hy
      obtain ⟨h1, h2, h3⟩ := small_of3 (rT_small ha)
      obtain ⟨p1, p2⟩ := s2_iff.1 hs
      obtain ⟨p3, p4⟩ := s2_iff.1 h1
      obtain ⟨p5, p6⟩ := s2_iff.1 h2
      obtain ⟨p7, p8⟩ := s2_iff.1 h3
      clear hs ha h1 h2 h3
      generalize wA x y a1 a2 b1 b2 c1 c2 = k0 at *
      generalize wB x y a1 a2 b1 b2 c1 c2 = k1 at *
      generalize wC x y a1 a2 b1 b2 c1 c2 = k2 at *
      generalize wW a1 a2 b1 b2 c1 c2 = n at *
      generalize r1 a1 a2 b1 b2 c1 c2 x y = r at *
      have sm : ∀ {v : Int}, SM 4096 v → SM 16384 v := fun h => by unfold SM at *; omega
      have f0 := far_part b0 (sm p3)
      have f1 := far_part b1' (sm p5)
      have f2 := far_part b2' (sm p7)
      have f3 := far_part (show -134217728 ≤ n ∧ n ≤ 134217728 by omega) (sm p1)
      obtain ⟨m1, hm1⟩ : ∃ v, n * x = v := ⟨_, rfl⟩
      rw [hm1] at f3 hx
      have g10 : IntKind.i64.wrap (k0 * a1) = k0 * a1 := IntWalk.i64_in _ (by omega)
      have g11 : IntKind.i64.wrap (k1 * b1) = k1 * b1 := IntWalk.i64_in _ (by omega)
      have g12 : IntKind.i64.wrap (k2 * c1) = k2 * c1 := IntWalk.i64_in _ (by omega)
      have g13 : IntKind.i64.wrap (k0 * a1 + k1 * b1) = k0 * a1 + k1 * b1 := IntWalk.i64_in _ (by omega)
      have g14 : IntKind.i64.wrap (k0 * a1 + k1 * b1 + k2 * c1) = m1 := by rw [hx]; exact IntWalk.i64_in _ (by omega)
      have g15 : IntKind.i64.wrap (n * x) = m1 := by rw [hm1]; exact IntWalk.i64_in _ (by omega)
      clear f0 f1 f2 f3 hx hm1
      have f0 := far_part b0 (sm p4)
      have f1 := far_part b1' (sm p6)
      have f2 := far_part b2' (sm p8)
      have f3 := far_part (show -134217728 ≤ n ∧ n ≤ 134217728 by omega) (sm p2)
      obtain ⟨m2, hm2⟩ : ∃ v, n * y = v := ⟨_, rfl⟩
      rw [hm2] at f3 hy
      have g20 : IntKind.i64.wrap (k0 * a2) = k0 * a2 := IntWalk.i64_in _ (by omega)
      have g21 : IntKind.i64.wrap (k1 * b2) = k1 * b2 := IntWalk.i64_in _ (by omega)
      have g22 : IntKind.i64.wrap (k2 * c2) = k2 * c2 := IntWalk.i64_in _ (by omega)
      have g23 : IntKind.i64.wrap (k0 * a2 + k1 * b2) = k0 * a2 + k1 * b2 := IntWalk.i64_in _ (by omega)
      have g24 : IntKind.i64.wrap (k0 * a2 + k1 * b2 + k2 * c2) = m2 := by rw [hy]; exact IntWalk.i64_in _ (by omega)
      have g25 : IntKind.i64.wrap (n * y) = m2 := by rw [hm2]; exact IntWalk.i64_in _ (by omega)
      clear f0 f1 f2 f3 hy hm2
      have q1 : IntKind.i64.wrap (k0 + k1) = k0 + k1 := IntWalk.i64_in _ (by omega)
      have q2 : IntKind.i64.wrap (k0 + k1 + k2) = n := by rw [hsum]; exact IntWalk.i64_in _ (by omega)
      have hn : ¬ n ≤ 0 := by omega
      obtain ⟨i, hi⟩ : ∃ v, r + 1 = v := ⟨_, rfl⟩
      rw [hi] at IN
      have HD := Lib.hid (leaves hi hb hin)
      clear b0 b1' b2' b3 hin hsum hb hi p1 p2 p3 p4 p5 p6 p7 p8 sm
      go_enter Try.func6, Try.ntmps6
      go_upto_region 1 with fail
      have hbp := below_new1 w (.cells #[.int .i64 x, .int .i64 y] 23)
      have zp : (w.alloc (.cells #[.int .i64 x, .int .i64 y] 23)).heap.size = w.heap.size + 1 := by simp
      have HB := Lib.hid hbp
      have kp := Lib.hid (Lok.new w 23 #[.int .i64 x, .int .i64 y])
      clear hbp
      generalize w.alloc (.cells #[.int .i64 x, .int .i64 y] 23) = Vp at *
      have hbt := below_new1 Vp (.cells #[.int .i64 a1, .int .i64 a2, .int .i64 b1, .int .i64 b2, .int .i64 c1, .int .i64 c2] 24)
      replace kp := Lib.hid (kp.out.keep hbt)
      have zt : (Vp.alloc (.cells #[.int .i64 a1, .int .i64 a2, .int .i64 b1, .int .i64 b2, .int .i64 c1, .int .i64 c2] 24)).heap.size = Vp.heap.size + 1 := by simp
      replace HB := Lib.hid (HB.out.trans (hbt.mono HB.out.size))
      have kt := Lib.hid (Lok.new Vp 24 #[.int .i64 a1, .int .i64 a2, .int .i64 b1, .int .i64 b2, .int .i64 c1, .int .i64 c2])
      clear hbt
      generalize Vp.alloc (.cells #[.int .i64 a1, .int .i64 a2, .int .i64 b1, .int .i64 b2, .int .i64 c1, .int .i64 c2] 24) = Vt at *
      rw [zp] at kt
      clear zp zt
      have p0 := kp.out.cell (i := 0) rfl
      have p1 := kp.out.cell (i := 1) rfl
      have t0 := kt.out.cell (i := 0) rfl
      have t1 := kt.out.cell (i := 1) rfl
      have t2 := kt.out.cell (i := 2) rfl
      have t3 := kt.out.cell (i := 3) rfl
      have t4 := kt.out.cell (i := 4) rfl
      have t5 := kt.out.cell (i := 5) rfl
      go_wp2_with fail
      clear p0 p1 t0 t1 t2 t3 t4 t5
      (((with_reducible refine (WT.out _).mono ?_); rintro e w1 ⟨rfl, hb1⟩); replace HB := Lib.hid (HB.out.trans (hb1.mono HB.out.size)); replace kp := Lib.hid (kp.out.keep hb1); replace kt := Lib.hid (kt.out.keep hb1); clear hb1)
      go_upto_region 2 with fail
      have hbm := below_new1 w1 (.cells #[.int .i64 k0, .int .i64 k1, .int .i64 k2] 35)
      replace kp := Lib.hid (kp.out.keep hbm)
      replace kt := Lib.hid (kt.out.keep hbm)
      have zm : (w1.alloc (.cells #[.int .i64 k0, .int .i64 k1, .int .i64 k2] 35)).heap.size = w1.heap.size + 1 := by simp
      replace HB := Lib.hid (HB.out.trans (hbm.mono HB.out.size))
      have km := Lib.hid (Lok.new w1 35 #[.int .i64 k0, .int .i64 k1, .int .i64 k2])
      clear hbm
      generalize w1.alloc (.cells #[.int .i64 k0, .int .i64 k1, .int .i64 k2] 35) = Vm at *
      clear zm
      generalize w1.heap.size = gm at *
      have p0 := kp.out.cell (i := 0) rfl
      have p1 := kp.out.cell (i := 1) rfl
      have t0 := kt.out.cell (i := 0) rfl
      have t1 := kt.out.cell (i := 1) rfl
      have t2 := kt.out.cell (i := 2) rfl
      have t3 := kt.out.cell (i := 3) rfl
      have t4 := kt.out.cell (i := 4) rfl
      have t5 := kt.out.cell (i := 5) rfl
      go_wp2_with fail
      clear p0 p1 t0 t1 t2 t3 t4 t5
      (((with_reducible refine (IN.out _).mono ?_); rintro e w2 ⟨rfl, hb2⟩); replace HB := Lib.hid (HB.out.trans (hb2.mono HB.out.size)); replace kp := Lib.hid (kp.out.keep hb2); replace kt := Lib.hid (kt.out.keep hb2); replace km := Lib.hid (km.out.keep hb2); clear hb2)
      have t0 := kt.out.cell (i := 0) rfl
      have t1 := kt.out.cell (i := 1) rfl
      have t2 := kt.out.cell (i := 2) rfl
      have t3 := kt.out.cell (i := 3) rfl
      have t4 := kt.out.cell (i := 4) rfl
      have t5 := kt.out.cell (i := 5) rfl
      have m0 := km.out.cell (i := 0) rfl
      have m1 := km.out.cell (i := 1) rfl
      have m2 := km.out.cell (i := 2) rfl
      go_upto_region 9 with fail
      clear t0 t1 t2 t3 t4 t5 m0 m1 m2
      have DD := HD.out
      clear HD q1 q2 hn g10 g11 g12 g13 g14 g20 g21 g22 g23 g24
      rcases DD with ⟨y0, y1, rfl⟩ | ⟨y0, y1, y2, rfl⟩ | ⟨y0, y1, y2, y3, rfl⟩ | ⟨y0, y1, y2, y3, rfl⟩ | ⟨y0, y1, y2, y3, rfl⟩ | ⟨y0, y1, y2, y3, y4, rfl⟩ | ⟨y0, y1, y2, y3, y4, rfl⟩ | ⟨y0, y1, y2, y3, y4, y5, rfl⟩ | ⟨y0, y1, y2, y3, y4, y5, rfl⟩ | ⟨y0, y1, y2, y3, y4, y5, rfl⟩
      · replace y0 : decide (0 ≤ k0) = false := decide_eq_false (by omega)
        replace y1 : decide (0 < k0) = false := decide_eq_false (by omega)
        have m0 := km.out.cell (i := 0) rfl
        have m1 := km.out.cell (i := 1) rfl
        have m2 := km.out.cell (i := 2) rfl
        go_upto_region 11 with fail
        clear m0 m1 m2
        have p0 := kp.out.cell (i := 0) rfl
        have p1 := kp.out.cell (i := 1) rfl
        go_wp2_with fail
        clear p0 p1
        (((with_reducible refine (ME.out _).mono ?_); rintro e w3 ⟨rfl, hb3⟩); replace HB := Lib.hid (HB.out.trans (hb3.mono HB.out.size)); replace kp := Lib.hid (kp.out.keep hb3); clear hb3)
        have p0 := kp.out.cell (i := 0) rfl
        have p1 := kp.out.cell (i := 1) rfl
        go_wp2
        go_ret
        exact ⟨rfl, HB.out⟩
      · replace y0 : decide (0 ≤ k0) = true := decide_eq_true (by omega)
        replace y1 : decide (0 < k0) = false := decide_eq_false (by omega)
        replace y2 : decide (0 ≤ k1) = false := decide_eq_false (by omega)
        have m0 := km.out.cell (i := 0) rfl
        have m1 := km.out.cell (i := 1) rfl
        have m2 := km.out.cell (i := 2) rfl
        go_upto_region 11 with fail
        clear m0 m1 m2
        have p0 := kp.out.cell (i := 0) rfl
        have p1 := kp.out.cell (i := 1) rfl
        go_wp2_with fail
        clear p0 p1
        (((with_reducible refine (ME.out _).mono ?_); rintro e w3 ⟨rfl, hb3⟩); replace HB := Lib.hid (HB.out.trans (hb3.mono HB.out.size)); replace kp := Lib.hid (kp.out.keep hb3); clear hb3)
        have p0 := kp.out.cell (i := 0) rfl
        have p1 := kp.out.cell (i := 1) rfl
        go_wp2
        go_ret
        exact ⟨rfl, HB.out⟩
      · replace y0 : decide (0 ≤ k0) = true := decide_eq_true (by omega)
        replace y1 : decide (0 < k0) = false := decide_eq_false (by omega)
        replace y2 : decide (0 ≤ k1) = true := decide_eq_true (by omega)
        replace y3 : decide (0 ≤ k2) = false := decide_eq_false (by omega)
        have m0 := km.out.cell (i := 0) rfl
        have m1 := km.out.cell (i := 1) rfl
        have m2 := km.out.cell (i := 2) rfl
        go_upto_region 11 with fail
        clear m0 m1 m2
        have p0 := kp.out.cell (i := 0) rfl
        have p1 := kp.out.cell (i := 1) rfl
        go_wp2_with fail
        clear p0 p1
        (((with_reducible refine (ME.out _).mono ?_); rintro e w3 ⟨rfl, hb3⟩); replace HB := Lib.hid (HB.out.trans (hb3.mono HB.out.size)); replace kp := Lib.hid (kp.out.keep hb3); clear hb3)
        have p0 := kp.out.cell (i := 0) rfl
        have p1 := kp.out.cell (i := 1) rfl
        go_wp2
        go_ret
        exact ⟨rfl, HB.out⟩
      · replace y0 : decide (0 ≤ k0) = true := decide_eq_true (by omega)
        replace y1 : decide (0 < k0) = false := decide_eq_false (by omega)
        replace y2 : decide (0 ≤ k1) = true := decide_eq_true (by omega)
        replace y3 : decide (0 ≤ k2) = true := decide_eq_true (by omega)
        have m0 := km.out.cell (i := 0) rfl
        have m1 := km.out.cell (i := 1) rfl
        have m2 := km.out.cell (i := 2) rfl
        go_upto_region 11 with fail
        clear m0 m1 m2
        have p0 := kp.out.cell (i := 0) rfl
        have p1 := kp.out.cell (i := 1) rfl
        go_wp2_with fail
        clear p0 p1
        (((with_reducible refine (ME.out _).mono ?_); rintro e w3 ⟨rfl, hb3⟩); replace HB := Lib.hid (HB.out.trans (hb3.mono HB.out.size)); replace kp := Lib.hid (kp.out.keep hb3); clear hb3)
        have p0 := kp.out.cell (i := 0) rfl
        have p1 := kp.out.cell (i := 1) rfl
        go_wp2
        go_ret
        exact ⟨rfl, HB.out⟩
      · replace y0 : decide (0 ≤ k0) = true := decide_eq_true (by omega)
        replace y1 : decide (0 < k0) = true := decide_eq_true (by omega)
        replace y2 : decide (0 ≤ k1) = false := decide_eq_false (by omega)
        replace y3 : decide (0 < k1) = false := decide_eq_false (by omega)
        have m0 := km.out.cell (i := 0) rfl
        have m1 := km.out.cell (i := 1) rfl
        have m2 := km.out.cell (i := 2) rfl
        go_upto_region 11 with fail
        clear m0 m1 m2
        have p0 := kp.out.cell (i := 0) rfl
        have p1 := kp.out.cell (i := 1) rfl
        go_wp2_with fail
        clear p0 p1
        (((with_reducible refine (ME.out _).mono ?_); rintro e w3 ⟨rfl, hb3⟩); replace HB := Lib.hid (HB.out.trans (hb3.mono HB.out.size)); replace kp := Lib.hid (kp.out.keep hb3); clear hb3)
        have p0 := kp.out.cell (i := 0) rfl
        have p1 := kp.out.cell (i := 1) rfl
        go_wp2
        go_ret
        exact ⟨rfl, HB.out⟩
      · replace y0 : decide (0 ≤ k0) = true := decide_eq_true (by omega)
        replace y1 : decide (0 < k0) = true := decide_eq_true (by omega)
        replace y2 : decide (0 ≤ k1) = true := decide_eq_true (by omega)
        replace y3 : decide (0 < k1) = false := decide_eq_false (by omega)
        replace y4 : decide (0 ≤ k2) = false := decide_eq_false (by omega)
        have m0 := km.out.cell (i := 0) rfl
        have m1 := km.out.cell (i := 1) rfl
        have m2 := km.out.cell (i := 2) rfl
        go_upto_region 11 with fail
        clear m0 m1 m2
        have p0 := kp.out.cell (i := 0) rfl
        have p1 := kp.out.cell (i := 1) rfl
        go_wp2_with fail
        clear p0 p1
        (((with_reducible refine (ME.out _).mono ?_); rintro e w3 ⟨rfl, hb3⟩); replace HB := Lib.hid (HB.out.trans (hb3.mono HB.out.size)); replace kp := Lib.hid (kp.out.keep hb3); clear hb3)
        have p0 := kp.out.cell (i := 0) rfl
        have p1 := kp.out.cell (i := 1) rfl
        go_wp2
        go_ret
        exact ⟨rfl, HB.out⟩
      · replace y0 : decide (0 ≤ k0) = true := decide_eq_true (by omega)
        replace y1 : decide (0 < k0) = true := decide_eq_true (by omega)
        replace y2 : decide (0 ≤ k1) = true := decide_eq_true (by omega)
        replace y3 : decide (0 < k1) = false := decide_eq_false (by omega)
        replace y4 : decide (0 ≤ k2) = true := decide_eq_true (by omega)
        have m0 := km.out.cell (i := 0) rfl
        have m1 := km.out.cell (i := 1) rfl
        have m2 := km.out.cell (i := 2) rfl
        go_upto_region 11 with fail
        clear m0 m1 m2
        have p0 := kp.out.cell (i := 0) rfl
        have p1 := kp.out.cell (i := 1) rfl
        go_wp2_with fail
        clear p0 p1
        (((with_reducible refine (ME.out _).mono ?_); rintro e w3 ⟨rfl, hb3⟩); replace HB := Lib.hid (HB.out.trans (hb3.mono HB.out.size)); replace kp := Lib.hid (kp.out.keep hb3); clear hb3)
        have p0 := kp.out.cell (i := 0) rfl
        have p1 := kp.out.cell (i := 1) rfl
        go_wp2
        go_ret
        exact ⟨rfl, HB.out⟩
      · replace y0 : decide (0 ≤ k0) = true := decide_eq_true (by omega)
        replace y1 : decide (0 < k0) = true := decide_eq_true (by omega)
        replace y2 : decide (0 ≤ k1) = true := decide_eq_true (by omega)
        replace y3 : decide (0 < k1) = true := decide_eq_true (by omega)
        replace y4 : decide (0 ≤ k2) = false := decide_eq_false (by omega)
        replace y5 : decide (0 < k2) = false := decide_eq_false (by omega)
        have m0 := km.out.cell (i := 0) rfl
        have m1 := km.out.cell (i := 1) rfl
        have m2 := km.out.cell (i := 2) rfl
        go_upto_region 11 with fail
        clear m0 m1 m2
        have p0 := kp.out.cell (i := 0) rfl
        have p1 := kp.out.cell (i := 1) rfl
        go_wp2_with fail
        clear p0 p1
        (((with_reducible refine (ME.out _).mono ?_); rintro e w3 ⟨rfl, hb3⟩); replace HB := Lib.hid (HB.out.trans (hb3.mono HB.out.size)); replace kp := Lib.hid (kp.out.keep hb3); clear hb3)
        have p0 := kp.out.cell (i := 0) rfl
        have p1 := kp.out.cell (i := 1) rfl
        go_wp2
        go_ret
        exact ⟨rfl, HB.out⟩
      · replace y0 : decide (0 ≤ k0) = true := decide_eq_true (by omega)
        replace y1 : decide (0 < k0) = true := decide_eq_true (by omega)
        replace y2 : decide (0 ≤ k1) = true := decide_eq_true (by omega)
        replace y3 : decide (0 < k1) = true := decide_eq_true (by omega)
        replace y4 : decide (0 ≤ k2) = true := decide_eq_true (by omega)
        replace y5 : decide (0 < k2) = false := decide_eq_false (by omega)
        have m0 := km.out.cell (i := 0) rfl
        have m1 := km.out.cell (i := 1) rfl
        have m2 := km.out.cell (i := 2) rfl
        go_upto_region 11 with fail
        clear m0 m1 m2
        have p0 := kp.out.cell (i := 0) rfl
        have p1 := kp.out.cell (i := 1) rfl
        go_wp2_with fail
        clear p0 p1
        (((with_reducible refine (ME.out _).mono ?_); rintro e w3 ⟨rfl, hb3⟩); replace HB := Lib.hid (HB.out.trans (hb3.mono HB.out.size)); replace kp := Lib.hid (kp.out.keep hb3); clear hb3)
        have p0 := kp.out.cell (i := 0) rfl
        have p1 := kp.out.cell (i := 1) rfl
        go_wp2
        go_ret
        exact ⟨rfl, HB.out⟩
      · replace y0 : decide (0 ≤ k0) = true := decide_eq_true (by omega)
        replace y1 : decide (0 < k0) = true := decide_eq_true (by omega)
        replace y2 : decide (0 ≤ k1) = true := decide_eq_true (by omega)
        replace y3 : decide (0 < k1) = true := decide_eq_true (by omega)
        replace y4 : decide (0 ≤ k2) = true := decide_eq_true (by omega)
        replace y5 : decide (0 < k2) = true := decide_eq_true (by omega)
        have m0 := km.out.cell (i := 0) rfl
        have m1 := km.out.cell (i := 1) rfl
        have m2 := km.out.cell (i := 2) rfl
        go_upto_region 11 with fail
        clear m0 m1 m2
        have p0 := kp.out.cell (i := 0) rfl
        have p1 := kp.out.cell (i := 1) rfl
        go_wp2_with fail
        clear p0 p1
        (((with_reducible refine (ME.out _).mono ?_); rintro e w3 ⟨rfl, hb3⟩); replace HB := Lib.hid (HB.out.trans (hb3.mono HB.out.size)); replace kp := Lib.hid (kp.out.keep hb3); clear hb3)
        have p0 := kp.out.cell (i := 0) rfl
        have p1 := kp.out.cell (i := 1) rfl
        go_wp2
        go_ret
        exact ⟨rfl, HB.out⟩
end Go.Proofs.Ytllamakemgogaaa
