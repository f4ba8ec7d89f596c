/-
  The law FracReduced: its walk.
-/
import Derived.Test.YtbcbocnblkepcaaFrE
namespace Go.Proofs.Ytbcbocnblkepcaa
open Go.RowKit

theorem erF_yes {n d : Int} (h : FR n d) : erF n d = 0 := if_pos h
theorem erF_no {n d : Int} (h : ¬ FR n d) : erF n d = 1 := if_neg h
set_option maxRecDepth 100000 in
set_option maxHeartbeats 4000000 in
theorem law_freduced_no (an ad bn bd xn xd yn yd e f : Int) (p q : Bool) (w : World)
    (R1 : Hid (∀ W, Calls Try.prog 11 #[.agg #[.int .i64 an, .int .i64 ad]] W fun r w' => r = .returned (.tuple #[.agg #[.int .i64 xn, .int .i64 xd], .int .i64 e]) ∧ Below W.heap.size W w'))
    (R2 : Hid (∀ W, Calls Try.prog 11 #[.agg #[.int .i64 bn, .int .i64 bd]] W fun r w' => r = .returned (.tuple #[.agg #[.int .i64 yn, .int .i64 yd], .int .i64 f]) ∧ Below W.heap.size W w'))
    (I1 : Hid (∀ W, Calls Try.prog 19 #[.agg #[.int .i64 an, .int .i64 ad]] W fun r w' => r = .returned (.bool p) ∧ Below W.heap.size W w'))
    (I2 : Hid (∀ W, Calls Try.prog 19 #[.agg #[.int .i64 bn, .int .i64 bd]] W fun r w' => r = .returned (.bool q) ∧ Below W.heap.size W w'))
    (h : (p = true ∧ e = 0 ∧ q = false ∧ f = 1) ∨ (p = false ∧ e = 1 ∧ q = true ∧ f = 0) ∨ (p = false ∧ e = 1 ∧ q = false ∧ f = 1)) :
    Calls Try.prog 5 #[.agg #[.int .i64 an, .int .i64 ad], .agg #[.int .i64 bn, .int .i64 bd]] w fun e w' => e = .returned (.bool true) ∧ Below w.heap.size w w' := by
  rcases h with ⟨rfl, rfl, rfl, rfl⟩ | ⟨rfl, rfl, rfl, rfl⟩ | ⟨rfl, rfl, rfl, rfl⟩
  all_goals
    go_enter Try.func5, Try.ntmps5
    go_upto_region 1 with fail
    have hbx := below_new1 w (.cells #[.int .i64 an, .int .i64 ad] 23)
    have zx : (w.alloc (.cells #[.int .i64 an, .int .i64 ad] 23)).heap.size = w.heap.size + 1 := by simp
    have HB := Lib.hid hbx
    have kx := Lib.hid (Lok.new w 23 #[.int .i64 an, .int .i64 ad])
    clear hbx
    generalize w.alloc (.cells #[.int .i64 an, .int .i64 ad] 23) = Vx at *
    have hby := below_new1 Vx (.cells #[.int .i64 bn, .int .i64 bd] 23)
    replace kx := Lib.hid (kx.out.keep hby)
    have zy : (Vx.alloc (.cells #[.int .i64 bn, .int .i64 bd] 23)).heap.size = Vx.heap.size + 1 := by simp
    replace HB := Lib.hid (HB.out.trans (hby.mono HB.out.size))
    have ky := Lib.hid (Lok.new Vx 23 #[.int .i64 bn, .int .i64 bd])
    clear hby
    generalize Vx.alloc (.cells #[.int .i64 bn, .int .i64 bd] 23) = Vy at *
    rw [zx] at ky
    clear zx zy
    have x0 := kx.out.cell (i := 0) rfl
    have x1 := kx.out.cell (i := 1) rfl
    go_wp2_with fail
    clear x0 x1
    ((with_reducible refine (R1.out _).mono ?_); rintro e w1 ⟨rfl, hb1⟩)
    replace HB := Lib.hid (HB.out.trans (hb1.mono HB.out.size))
    replace kx := Lib.hid (kx.out.keep hb1)
    replace ky := Lib.hid (ky.out.keep hb1)
    clear hb1
    have y0 := keepa (o := .cells #[.int .i64 xn, .int .i64 xd] 23) (ky.out.cell (i := 0) rfl); have y1 := keepa (o := .cells #[.int .i64 xn, .int .i64 xd] 23) (ky.out.cell (i := 1) rfl)
    go_wp2_with fail
    clear y0 y1
    have hb1 := below_new1 w1 (.cells #[.int .i64 xn, .int .i64 xd] 23)
    replace HB := Lib.hid (HB.out.trans (hb1.mono HB.out.size))
    replace kx := Lib.hid (kx.out.keep hb1)
    replace ky := Lib.hid (ky.out.keep hb1)
    have k1 := Lib.hid (Lok.new w1 23 #[.int .i64 xn, .int .i64 xd])
    clear hb1
    generalize w1.alloc (.cells #[.int .i64 xn, .int .i64 xd] 23) = V1 at *
    generalize w1.heap.size = g1 at *
    ((with_reducible refine (R2.out _).mono ?_); rintro e w2 ⟨rfl, hb2⟩)
    replace HB := Lib.hid (HB.out.trans (hb2.mono HB.out.size))
    replace kx := Lib.hid (kx.out.keep hb2)
    replace ky := Lib.hid (ky.out.keep hb2)
    clear hb2
    go_wp2_with fail
    have hb2 := below_new1 w2 (.cells #[.int .i64 yn, .int .i64 yd] 23)
    replace HB := Lib.hid (HB.out.trans (hb2.mono HB.out.size))
    replace kx := Lib.hid (kx.out.keep hb2)
    replace ky := Lib.hid (ky.out.keep hb2)
    have k2 := Lib.hid (Lok.new w2 23 #[.int .i64 yn, .int .i64 yd])
    clear hb2
    generalize w2.alloc (.cells #[.int .i64 yn, .int .i64 yd] 23) = V2 at *
    generalize w2.heap.size = g2 at *
    go_wp2_with fail
    (((with_reducible refine (fshared_any _).mono ?_); rintro e w3 ⟨rfl, hb3⟩); replace HB := Lib.hid (HB.out.trans (hb3.mono HB.out.size)); replace kx := Lib.hid (kx.out.keep hb3); replace ky := Lib.hid (ky.out.keep hb3); clear hb3)
    have x0 := kx.out.cell (i := 0) rfl
    have x1 := kx.out.cell (i := 1) rfl
    go_wp2_with fail
    clear x0 x1
    (((with_reducible refine (I1.out _).mono ?_); rintro e w4 ⟨rfl, hb4⟩); replace HB := Lib.hid (HB.out.trans (hb4.mono HB.out.size)); replace kx := Lib.hid (kx.out.keep hb4); replace ky := Lib.hid (ky.out.keep hb4); clear hb4)
    have x0 := ky.out.cell (i := 0) rfl
    have x1 := ky.out.cell (i := 1) rfl
    go_wp2_with fail
    clear x0 x1
    (((with_reducible refine (I2.out _).mono ?_); rintro e w5 ⟨rfl, hb5⟩); replace HB := Lib.hid (HB.out.trans (hb5.mono HB.out.size)); clear hb5)
    go_wp2
    go_ret
    exact ⟨rfl, HB.out⟩

/-- How two reduced ones stand. -/
def Alike (c xn xd yn yd : Int) : Prop := c = 0 ↔ (xn = yn ∧ xd = yd)
set_option maxRecDepth 100000 in
set_option maxHeartbeats 8000000 in
theorem law_freduced_yes (an ad bn bd xn xd yn yd c : Int) (w : World)
    (R1 : Hid (∀ W, Calls Try.prog 11 #[.agg #[.int .i64 an, .int .i64 ad]] W fun r w' => r = .returned (.tuple #[.agg #[.int .i64 xn, .int .i64 xd], .int .i64 0]) ∧ Below W.heap.size W w'))
    (R2 : Hid (∀ W, Calls Try.prog 11 #[.agg #[.int .i64 bn, .int .i64 bd]] W fun r w' => r = .returned (.tuple #[.agg #[.int .i64 yn, .int .i64 yd], .int .i64 0]) ∧ Below W.heap.size W w'))
    (R3 : Hid (∀ W, Calls Try.prog 11 #[.agg #[.int .i64 xn, .int .i64 xd]] W fun r w' => r = .returned (.tuple #[.agg #[.int .i64 xn, .int .i64 xd], .int .i64 0]) ∧ Below W.heap.size W w'))
    (I1 : Hid (∀ W, Calls Try.prog 19 #[.agg #[.int .i64 xn, .int .i64 xd]] W fun r w' => r = .returned (.bool true) ∧ Below W.heap.size W w'))
    (C1 : Hid (∀ W, Calls Try.prog 21 #[.agg #[.int .i64 an, .int .i64 ad], .agg #[.int .i64 xn, .int .i64 xd]] W fun e w' => e = .returned (.int .i64 0) ∧ Below W.heap.size W w'))
    (C2 : Hid (∀ W, Calls Try.prog 21 #[.agg #[.int .i64 an, .int .i64 ad], .agg #[.int .i64 bn, .int .i64 bd]] W fun e w' => e = .returned (.int .i64 c) ∧ Below W.heap.size W w'))
    (h : Alike c xn xd yn yd) (hl : xd ≤ ad) :
    Calls Try.prog 5 #[.agg #[.int .i64 an, .int .i64 ad], .agg #[.int .i64 bn, .int .i64 bd]] w fun e w' => e = .returned (.bool true) ∧ Below w.heap.size w w' := by
  have hd : decide (xd ≤ ad) = true := decide_eq_true hl
  go_enter Try.func5, Try.ntmps5
  go_upto_region 1 with fail
  have hbx := below_new1 w (.cells #[.int .i64 an, .int .i64 ad] 23)
  have zx : (w.alloc (.cells #[.int .i64 an, .int .i64 ad] 23)).heap.size = w.heap.size + 1 := by simp
  have HB := Lib.hid hbx
  have kx := Lib.hid (Lok.new w 23 #[.int .i64 an, .int .i64 ad])
  clear hbx
  generalize w.alloc (.cells #[.int .i64 an, .int .i64 ad] 23) = Vx at *
  have hby := below_new1 Vx (.cells #[.int .i64 bn, .int .i64 bd] 23)
  replace kx := Lib.hid (kx.out.keep hby)
  have zy : (Vx.alloc (.cells #[.int .i64 bn, .int .i64 bd] 23)).heap.size = Vx.heap.size + 1 := by simp
  replace HB := Lib.hid (HB.out.trans (hby.mono HB.out.size))
  have ky := Lib.hid (Lok.new Vx 23 #[.int .i64 bn, .int .i64 bd])
  clear hby
  generalize Vx.alloc (.cells #[.int .i64 bn, .int .i64 bd] 23) = Vy at *
  rw [zx] at ky
  clear zx zy
  have x0 := kx.out.cell (i := 0) rfl
  have x1 := kx.out.cell (i := 1) rfl
  go_wp2_with fail
  clear x0 x1
  ((with_reducible refine (R1.out _).mono ?_); rintro e w1 ⟨rfl, hb1⟩)
  replace HB := Lib.hid (HB.out.trans (hb1.mono HB.out.size))
  replace kx := Lib.hid (kx.out.keep hb1)
  replace ky := Lib.hid (ky.out.keep hb1)
  clear hb1
  have y0 := keepa (o := .cells #[.int .i64 xn, .int .i64 xd] 23) (ky.out.cell (i := 0) rfl); have y1 := keepa (o := .cells #[.int .i64 xn, .int .i64 xd] 23) (ky.out.cell (i := 1) rfl)
  go_wp2_with fail
  clear y0 y1
  have hb1 := below_new1 w1 (.cells #[.int .i64 xn, .int .i64 xd] 23)
  replace HB := Lib.hid (HB.out.trans (hb1.mono HB.out.size))
  replace kx := Lib.hid (kx.out.keep hb1)
  replace ky := Lib.hid (ky.out.keep hb1)
  have k1 := Lib.hid (Lok.new w1 23 #[.int .i64 xn, .int .i64 xd])
  clear hb1
  generalize w1.alloc (.cells #[.int .i64 xn, .int .i64 xd] 23) = V1 at *
  generalize w1.heap.size = g1 at *
  ((with_reducible refine (R2.out _).mono ?_); rintro e w2 ⟨rfl, hb2⟩)
  replace HB := Lib.hid (HB.out.trans (hb2.mono HB.out.size))
  replace kx := Lib.hid (kx.out.keep hb2)
  replace ky := Lib.hid (ky.out.keep hb2)
  replace k1 := Lib.hid (k1.out.keep hb2)
  clear hb2
  have y0 := keepa (o := .cells #[.int .i64 yn, .int .i64 yd] 23) (k1.out.cell (i := 0) rfl); have y1 := keepa (o := .cells #[.int .i64 yn, .int .i64 yd] 23) (k1.out.cell (i := 1) rfl)
  go_wp2_with fail
  clear y0 y1
  have hb2 := below_new1 w2 (.cells #[.int .i64 yn, .int .i64 yd] 23)
  replace HB := Lib.hid (HB.out.trans (hb2.mono HB.out.size))
  replace kx := Lib.hid (kx.out.keep hb2)
  replace ky := Lib.hid (ky.out.keep hb2)
  replace k1 := Lib.hid (k1.out.keep hb2)
  have k2 := Lib.hid (Lok.new w2 23 #[.int .i64 yn, .int .i64 yd])
  clear hb2
  generalize w2.alloc (.cells #[.int .i64 yn, .int .i64 yd] 23) = V2 at *
  generalize w2.heap.size = g2 at *
  ((with_reducible refine (R3.out _).mono ?_); rintro e w3 ⟨rfl, hb3⟩)
  replace HB := Lib.hid (HB.out.trans (hb3.mono HB.out.size))
  replace kx := Lib.hid (kx.out.keep hb3)
  replace ky := Lib.hid (ky.out.keep hb3)
  replace k1 := Lib.hid (k1.out.keep hb3)
  replace k2 := Lib.hid (k2.out.keep hb3)
  clear hb3
  go_wp2_with fail
  have hb3 := below_new1 w3 (.cells #[.int .i64 xn, .int .i64 xd] 23)
  replace HB := Lib.hid (HB.out.trans (hb3.mono HB.out.size))
  replace kx := Lib.hid (kx.out.keep hb3)
  replace ky := Lib.hid (ky.out.keep hb3)
  replace k1 := Lib.hid (k1.out.keep hb3)
  replace k2 := Lib.hid (k2.out.keep hb3)
  have k3 := Lib.hid (Lok.new w3 23 #[.int .i64 xn, .int .i64 xd])
  clear hb3
  generalize w3.alloc (.cells #[.int .i64 xn, .int .i64 xd] 23) = V3 at *
  generalize w3.heap.size = g3 at *
  go_upto_region 6 with fail
  have ST := Lib.hid (past_stays V3)
  have ne : Nonempty (Of (PastF V3)) := ⟨⟨V3, Below.refl _ _⟩⟩
  have a0 : ∀ d : Of (PastF V3), d.world.cell? ⟨w.heap.size, 0, none⟩ = some (.int .i64 an) := fun d => keepc d.holds (kx.out.cell (i := 0) rfl)
  have a1 : ∀ d : Of (PastF V3), d.world.cell? ⟨w.heap.size, 1, none⟩ = some (.int .i64 ad) := fun d => keepc d.holds (kx.out.cell (i := 1) rfl)
  have a2 : ∀ d : Of (PastF V3), d.world.cell? ⟨w.heap.size + 1, 0, none⟩ = some (.int .i64 bn) := fun d => keepc d.holds (ky.out.cell (i := 0) rfl)
  have a3 : ∀ d : Of (PastF V3), d.world.cell? ⟨w.heap.size + 1, 1, none⟩ = some (.int .i64 bd) := fun d => keepc d.holds (ky.out.cell (i := 1) rfl)
  have a4 : ∀ d : Of (PastF V3), d.world.cell? ⟨g1, 0, none⟩ = some (.int .i64 xn) := fun d => keepc d.holds (k1.out.cell (i := 0) rfl)
  have a5 : ∀ d : Of (PastF V3), d.world.cell? ⟨g1, 1, none⟩ = some (.int .i64 xd) := fun d => keepc d.holds (k1.out.cell (i := 1) rfl)
  have a6 : ∀ d : Of (PastF V3), d.world.cell? ⟨g2, 0, none⟩ = some (.int .i64 yn) := fun d => keepc d.holds (k2.out.cell (i := 0) rfl)
  have a7 : ∀ d : Of (PastF V3), d.world.cell? ⟨g2, 1, none⟩ = some (.int .i64 yd) := fun d => keepc d.holds (k2.out.cell (i := 1) rfl)
  have a8 : ∀ d : Of (PastF V3), d.world.cell? ⟨g3, 0, none⟩ = some (.int .i64 xn) := fun d => keepc d.holds (k3.out.cell (i := 0) rfl)
  have a9 : ∀ d : Of (PastF V3), d.world.cell? ⟨g3, 1, none⟩ = some (.int .i64 xd) := fun d => keepc d.holds (k3.out.cell (i := 1) rfl)
  clear kx ky k1 k2 k3 R1 R2 R3
  have H : (c = 0 ∧ xn = yn ∧ xd = yd) ∨ (c ≠ 0 ∧ xn ≠ yn) ∨ (c ≠ 0 ∧ xn = yn ∧ xd ≠ yd) := by
    unfold Alike at h
    by_cases q : c = 0
    · exact .inl ⟨q, h.1 q⟩
    · by_cases r : xn = yn
      · exact .inr (.inr ⟨q, r, fun s => q (h.2 ⟨r, s⟩)⟩)
      · exact .inr (.inl ⟨q, r⟩)
  clear h
  rcases H with ⟨rfl, rfl, rfl⟩ | ⟨hc, hx⟩ | ⟨hc, rfl, hx⟩
  · refine wp_region_class (S := PastF V3) (by kernel_rfl) (by kernel_rfl) (Below.refl _ _).drew ?_
    repeat (go_big_quiet_step (first | (go_at_call 18; exact class_call ST.out _ (fshared_any _)) | (go_at_call 19; exact class_call ST.out _ (I1.out _)) | (go_at_call 21; with_reducible exact class_call ST.out _ (C1.out _)) | (go_at_call 21; with_reducible exact class_call ST.out _ (C2.out _))))
    refine wpQuiet_nil ?_
    rintro _ ⟨d, rfl⟩
    have HD := Lib.hid (show Below V3.heap.size V3 d.world from d.holds)
    clear a0 a1 a2 a3 a4 a5 a6 a7 a8 a9 ne ST
    go_wp2
    go_ret
    exact ⟨rfl, HB.out.trans (HD.out.mono HB.out.size)⟩
  · have e1 : (c == 0) = false := by rw [beq_eq_false_iff_ne]; exact hc
    have e2 : (xn == yn) = false := by rw [beq_eq_false_iff_ne]; exact hx
    refine wp_region_class (S := PastF V3) (by kernel_rfl) (by kernel_rfl) (Below.refl _ _).drew ?_
    repeat (go_big_quiet_step (first | (go_at_call 18; exact class_call ST.out _ (fshared_any _)) | (go_at_call 19; exact class_call ST.out _ (I1.out _)) | (go_at_call 21; with_reducible exact class_call ST.out _ (C1.out _)) | (go_at_call 21; with_reducible exact class_call ST.out _ (C2.out _))))
    refine wpQuiet_nil ?_
    rintro _ ⟨d, rfl⟩
    have HD := Lib.hid (show Below V3.heap.size V3 d.world from d.holds)
    clear a0 a1 a2 a3 a4 a5 a6 a7 a8 a9 ne ST
    go_wp2
    go_ret
    exact ⟨rfl, HB.out.trans (HD.out.mono HB.out.size)⟩
  · have e1 : (c == 0) = false := by rw [beq_eq_false_iff_ne]; exact hc
    have e2 : (xd == yd) = false := by rw [beq_eq_false_iff_ne]; exact hx
    refine wp_region_class (S := PastF V3) (by kernel_rfl) (by kernel_rfl) (Below.refl _ _).drew ?_
    repeat (go_big_quiet_step (first | (go_at_call 18; exact class_call ST.out _ (fshared_any _)) | (go_at_call 19; exact class_call ST.out _ (I1.out _)) | (go_at_call 21; with_reducible exact class_call ST.out _ (C1.out _)) | (go_at_call 21; with_reducible exact class_call ST.out _ (C2.out _))))
    refine wpQuiet_nil ?_
    rintro _ ⟨d, rfl⟩
    have HD := Lib.hid (show Below V3.heap.size V3 d.world from d.holds)
    clear a0 a1 a2 a3 a4 a5 a6 a7 a8 a9 ne ST
    go_wp2
    go_ret
    exact ⟨rfl, HB.out.trans (HD.out.mono HB.out.size)⟩
theorem law_freduced (an ad bn bd : Int) (w : World) :
    Calls Try.prog 5 #[.agg #[.int .i64 an, .int .i64 ad], .agg #[.int .i64 bn, .int .i64 bd]] w fun e w' => e = .returned (.bool true) ∧ Below w.heap.size w w' := by
  have R1 := fun W => reduce_any an ad W
  have R2 := fun W => reduce_any bn bd W
  by_cases h : FR an ad ∧ FR bn bd
  · obtain ⟨h, k⟩ := h
    rw [erF_yes h] at R1
    rw [erF_yes k] at R2
    have r := rd_right h
    have r1 : rdN an ad = an.tdiv (gcF an ad) := if_pos h
    have r2 : rdD an ad = ad.tdiv (gcF an ad) := if_pos h
    rw [← r1, ← r2] at r
    have R3 := fun W => reduce_any (rdN an ad) (rdD an ad) W
    rw [(rd_again h).1, (rd_again h).2, erF_yes r] at R3
    have C1 := fun W => fcmp_any an ad (rdN an ad) (rdD an ad) W
    rw [rd_same h] at C1
    exact law_freduced_yes an ad bn bd _ _ _ _ _ w (Lib.hid R1) (Lib.hid R2) (Lib.hid R3) (Lib.hid fun W => fis_yes _ _ W r) (Lib.hid C1) (Lib.hid fun W => fcmp_any an ad bn bd W) (rd_unique h k) (rd_less h)
  · refine law_freduced_no an ad bn bd _ _ _ _ _ _ _ _ w (Lib.hid R1) (Lib.hid R2) (Lib.hid fun W => fis_any an ad W) (Lib.hid fun W => fis_any bn bd W) ?_
    by_cases f : FR an ad
    · have g : ¬ FR bn bd := fun g => h ⟨f, g⟩
      exact .inl ⟨isF_yes f, erF_yes f, isF_no g, erF_no g⟩
    · by_cases g : FR bn bd
      · exact .inr (.inl ⟨isF_no f, erF_no f, isF_yes g, erF_yes g⟩)
      · exact .inr (.inr ⟨isF_no f, erF_no f, isF_no g, erF_no g⟩)
end Go.Proofs.Ytbcbocnblkepcaa
