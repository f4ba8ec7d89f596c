/-
  Contracts of package frac: Is, rank, how two ints stand, the first of three that is not 0.
-/
import Derived.Test.YtfghjfgdjlkooaaBase
import Derived.Test.YtfghjfgdjlkooaaRel
import Derived.Test.YtfghjfgdjlkooaaFrPl
import Derived.Test.YtfghjfgdjlkooaaWdM
import Derived.Test.YtfghjfgdjlkooaaCmpI
import Derived.Deep.Cut
namespace Go.Proofs.Ytfghjfgdjlkooaa
open Go.RowKit

set_option maxHeartbeats 400000 in
theorem fis_yes (n d : Int) (w : World) (h : FR n d) :
    Calls Try.prog 49 #[.agg #[.int .i64 n, .int .i64 d]] w fun e w' => e = .returned (.bool true) ∧ Below w.heap.size w w' := by
  obtain ⟨c1, c2, c3, c4⟩ := h
  go_enter Try.func49, Try.ntmps49
  go_wp2
  go_ret
  exact ⟨rfl, (Below.refl _ _).alloc (Nat.le_refl _) _⟩
set_option maxHeartbeats 400000 in
theorem fis_no (n d : Int) (w : World) (h : ¬ FR n d) :
    Calls Try.prog 49 #[.agg #[.int .i64 n, .int .i64 d]] w fun e w' => e = .returned (.bool false) ∧ Below w.heap.size w w' := by
  unfold FR at h
  by_cases c1 : 1 ≤ d
  · by_cases c2 : d ≤ 1000000000000000000
    · by_cases c3 : -1000000000000000000 ≤ n
      · by_cases c4 : n ≤ 1000000000000000000
        · exact absurd ⟨c1, c2, c3, c4⟩ h
        · clear h
          have d4 : decide (n ≤ 1000000000000000000) = false := by simpa using c4
          go_enter Try.func49, Try.ntmps49
          go_wp2
          go_ret
          exact ⟨rfl, (Below.refl _ _).alloc (Nat.le_refl _) _⟩
      · clear h
        have d3 : decide (-1000000000000000000 ≤ n) = false := by simpa using c3
        go_enter Try.func49, Try.ntmps49
        go_wp2
        go_ret
        exact ⟨rfl, (Below.refl _ _).alloc (Nat.le_refl _) _⟩
    · clear h
      have d2 : decide (d ≤ 1000000000000000000) = false := by simpa using c2
      go_enter Try.func49, Try.ntmps49
      go_wp2
      go_ret
      exact ⟨rfl, (Below.refl _ _).alloc (Nat.le_refl _) _⟩
  · clear h
    have d1 : decide (1 ≤ d) = false := by simpa using c1
    go_enter Try.func49, Try.ntmps49
    go_wp2
    go_ret
    exact ⟨rfl, (Below.refl _ _).alloc (Nat.le_refl _) _⟩
theorem fis_any (n d : Int) (w : World) :
    Calls Try.prog 49 #[.agg #[.int .i64 n, .int .i64 d]] w fun e w' => e = .returned (.bool (isF n d)) ∧ Below w.heap.size w w' := by
  unfold isF
  by_cases h : FR n d
  · rw [decide_eq_true h]; exact fis_yes n d w h
  · rw [decide_eq_false h]; exact fis_no n d w h
theorem isF_yes {n d : Int} (h : FR n d) : isF n d = true := decide_eq_true h
theorem isF_no {n d : Int} (h : ¬ FR n d) : isF n d = false := decide_eq_false h

set_option maxHeartbeats 400000 in
theorem rank_any (n d : Int) (w : World) :
    Calls Try.prog 52 #[.agg #[.int .i64 n, .int .i64 d]] w fun e w' => e = .returned (.int .i64 (rkF n d)) ∧ Below w.heap.size w w' := by
  by_cases h : FR n d
  · rw [rkF_yes h]
    go_enter Try.func52, Try.ntmps52
    go_wp2_with fail
    (refine (fis_yes _ _ _ h).mono ?_; rintro e w1 ⟨rfl, hb1⟩; have hB1 : Below w.heap.size w w1 := (by refine Below.trans ?_ (hb1.mono (by first | omega | (simp; done) | (simp; omega))); (repeat (first | exact Below.refl _ _ | assumption | refine Below.drew ?_ | refine below_drewN ?_ _ | refine Below.setCell ?_ (by first | omega | (simp; done) | (simp; omega)) _ | refine Below.alloc ?_ (by first | omega | (simp; done) | (simp; omega)) _))); have hsz1 : w.heap.size ≤ w1.heap.size := hB1.size)
    go_wp2
    go_ret
    exact ⟨rfl, by (repeat (first | exact Below.refl _ _ | assumption | refine Below.drew ?_ | refine below_drewN ?_ _ | refine Below.setCell ?_ (by first | omega | (simp; done) | (simp; omega)) _ | refine Below.alloc ?_ (by first | omega | (simp; done) | (simp; omega)) _))⟩
  · rw [rkF_no h]
    go_enter Try.func52, Try.ntmps52
    go_wp2_with fail
    (refine (fis_no _ _ _ h).mono ?_; rintro e w1 ⟨rfl, hb1⟩; have hB1 : Below w.heap.size w w1 := (by refine Below.trans ?_ (hb1.mono (by first | omega | (simp; done) | (simp; omega))); (repeat (first | exact Below.refl _ _ | assumption | refine Below.drew ?_ | refine below_drewN ?_ _ | refine Below.setCell ?_ (by first | omega | (simp; done) | (simp; omega)) _ | refine Below.alloc ?_ (by first | omega | (simp; done) | (simp; omega)) _))); have hsz1 : w.heap.size ≤ w1.heap.size := hB1.size)
    go_wp2
    go_ret
    exact ⟨rfl, by (repeat (first | exact Below.refl _ _ | assumption | refine Below.drew ?_ | refine below_drewN ?_ _ | refine Below.setCell ?_ (by first | omega | (simp; done) | (simp; omega)) _ | refine Below.alloc ?_ (by first | omega | (simp; done) | (simp; omega)) _))⟩

set_option maxHeartbeats 1000000 in
theorem or_three (x y z : Int) (g : Nat) (T : TypeId) (w : World) (h : Lok w g T #[.int .i64 x, .int .i64 y, .int .i64 z]) :
    Calls Try.prog 51 #[.slice (some ⟨g, 0, none⟩) 3 3] w fun e w' => e = .returned (.int .i64 (or3 x y z)) ∧ Below w.heap.size w w' := by
  have c0 := h.cell (i := 0) rfl
  have c1 := h.cell (i := 1) rfl
  have c2 := h.cell (i := 2) rfl
  clear h
  by_cases hx : x = 0
  · subst hx
    by_cases hy : y = 0
    · subst hy
      rw [or3_3]
      by_cases hz : z = 0
      · subst hz
        go_enter Try.func51, Try.ntmps51
        go_wp2_with fail
        refine wp_loop_rounds 4 ?_
        rw [rounds_succ]
        go_wp2
        rw [rounds_succ]
        go_wp2
        rw [rounds_succ]
        go_wp2
        rw [rounds_succ]
        go_wp2
        go_ret
        exact ⟨rfl, by (repeat (first | exact Below.refl _ _ | assumption | refine Below.drew ?_ | refine below_drewN ?_ _ | refine Below.setCell ?_ (by first | omega | (simp; done) | (simp; omega)) _ | refine Below.alloc ?_ (by first | omega | (simp; done) | (simp; omega)) _))⟩
      · have e : (z != 0) = true := by rw [bne_iff_ne]; exact hz
        go_enter Try.func51, Try.ntmps51
        go_wp2_with fail
        refine wp_loop_rounds 4 ?_
        rw [rounds_succ]
        go_wp2
        rw [rounds_succ]
        go_wp2
        rw [rounds_succ]
        go_wp2
        go_ret
        exact ⟨rfl, by (repeat (first | exact Below.refl _ _ | assumption | refine Below.drew ?_ | refine below_drewN ?_ _ | refine Below.setCell ?_ (by first | omega | (simp; done) | (simp; omega)) _ | refine Below.alloc ?_ (by first | omega | (simp; done) | (simp; omega)) _))⟩
    · have e : (y != 0) = true := by rw [bne_iff_ne]; exact hy
      rw [or3_2 _ hy]
      go_enter Try.func51, Try.ntmps51
      go_wp2_with fail
      refine wp_loop_rounds 4 ?_
      rw [rounds_succ]
      go_wp2
      rw [rounds_succ]
      go_wp2
      go_ret
      exact ⟨rfl, by (repeat (first | exact Below.refl _ _ | assumption | refine Below.drew ?_ | refine below_drewN ?_ _ | refine Below.setCell ?_ (by first | omega | (simp; done) | (simp; omega)) _ | refine Below.alloc ?_ (by first | omega | (simp; done) | (simp; omega)) _))⟩
  · have e : (x != 0) = true := by rw [bne_iff_ne]; exact hx
    rw [or3_1 _ _ hx]
    go_enter Try.func51, Try.ntmps51
    go_wp2_with fail
    refine wp_loop_rounds 4 ?_
    rw [rounds_succ]
    go_wp2
    go_ret
    exact ⟨rfl, by (repeat (first | exact Below.refl _ _ | assumption | refine Below.drew ?_ | refine below_drewN ?_ _ | refine Below.setCell ?_ (by first | omega | (simp; done) | (simp; omega)) _ | refine Below.alloc ?_ (by first | omega | (simp; done) | (simp; omega)) _))⟩


/-! Two right ones, crosswise. -/
theorem cmpI_ord (p q : Int) : cmpI (p / 1000000000000000000) (p % 1000000000000000000) (q / 1000000000000000000) (q % 1000000000000000000) = ordI p q := by
  rcases ordI_ways p q with ⟨h, e⟩ | ⟨h, e⟩ | ⟨h, e⟩ <;> rw [e]
  · exact (cmpI_lt (by omega)).symm
  · subst h; exact cmpI_self _ _
  · exact (cmpI_gt (by omega)).symm
set_option maxHeartbeats 400000 in
theorem cmpRight_any (an ad bn bd : Int) (w : World) (h : FR an ad) (k : FR bn bd) :
    Calls Try.prog 50 #[.agg #[.int .i64 an, .int .i64 ad], .agg #[.int .i64 bn, .int .i64 bd]] w fun e w' => e = .returned (.int .i64 (ordI (an * bd) (bn * ad))) ∧ Below w.heap.size w w' := by
  have M1 := Lib.hid (fun W => mul_ok an bd W ⟨h.2.2.1, h.2.2.2⟩ ⟨by have := k.1; omega, k.2.1⟩)
  have M2 := Lib.hid (fun W => mul_ok bn ad W ⟨k.2.2.1, k.2.2.2⟩ ⟨by have := h.1; omega, h.2.1⟩)
  have C := Lib.hid (fun W => cmp_any (an * bd / 1000000000000000000) (an * bd % 1000000000000000000) (bn * ad / 1000000000000000000) (bn * ad % 1000000000000000000) W)
  rw [cmpI_ord] at C
  clear h k
  generalize ordI (an * bd) (bn * ad) = z at *
  generalize an * bd / 1000000000000000000 = p at *
  generalize an * bd % 1000000000000000000 = q at *
  generalize bn * ad / 1000000000000000000 = r at *
  generalize bn * ad % 1000000000000000000 = s at *
  go_enter Try.func50, Try.ntmps50
  go_upto_region 1 with fail
  have hbx := below_new1 w (.cells #[.int .i64 an, .int .i64 ad] 56)
  have zx : (w.alloc (.cells #[.int .i64 an, .int .i64 ad] 56)).heap.size = w.heap.size + 1 := by simp
  have HB := Lib.hid hbx
  have kx := Lib.hid (Lok.new w 56 #[.int .i64 an, .int .i64 ad])
  clear hbx
  generalize w.alloc (.cells #[.int .i64 an, .int .i64 ad] 56) = Vx at *
  have hby := below_new1 Vx (.cells #[.int .i64 bn, .int .i64 bd] 56)
  replace kx := Lib.hid (kx.out.keep hby)
  have zy : (Vx.alloc (.cells #[.int .i64 bn, .int .i64 bd] 56)).heap.size = Vx.heap.size + 1 := by simp
  replace HB := Lib.hid (HB.out.trans (hby.mono HB.out.size))
  have ky := Lib.hid (Lok.new Vx 56 #[.int .i64 bn, .int .i64 bd])
  clear hby
  generalize Vx.alloc (.cells #[.int .i64 bn, .int .i64 bd] 56) = Vy at *
  rw [zx] at ky
  clear zx zy
  have x0 := kx.out.cell (i := 0) rfl
  have x1 := kx.out.cell (i := 1) rfl
  have y0 := ky.out.cell (i := 0) rfl
  have y1 := ky.out.cell (i := 1) rfl
  go_wp2_with fail
  clear x0 x1 y0 y1
  ((with_reducible refine (M1.out _).mono ?_); rintro e w1 ⟨rfl, hb1⟩)
  replace HB := Lib.hid (HB.out.trans (hb1.mono HB.out.size))
  replace kx := Lib.hid (kx.out.keep hb1)
  replace ky := Lib.hid (ky.out.keep hb1)
  clear hb1
  have y0 := keepa (o := .cells #[.int .i64 p, .int .i64 q] 85) (ky.out.cell (i := 0) rfl); have x1 := keepa (o := .cells #[.int .i64 p, .int .i64 q] 85) (kx.out.cell (i := 1) rfl)
  go_wp2_with fail
  clear x1 y0
  have hb1 := below_new1 w1 (.cells #[.int .i64 p, .int .i64 q] 85)
  replace HB := Lib.hid (HB.out.trans (hb1.mono HB.out.size))
  replace kx := Lib.hid (kx.out.keep hb1)
  replace ky := Lib.hid (ky.out.keep hb1)
  have k1 := Lib.hid (Lok.new w1 85 #[.int .i64 p, .int .i64 q])
  clear hb1
  generalize w1.alloc (.cells #[.int .i64 p, .int .i64 q] 85) = V1 at *
  generalize w1.heap.size = g1 at *
  ((with_reducible refine (M2.out _).mono ?_); rintro e w2 ⟨rfl, hb2⟩)
  replace HB := Lib.hid (HB.out.trans (hb2.mono HB.out.size))
  replace kx := Lib.hid (kx.out.keep hb2)
  replace ky := Lib.hid (ky.out.keep hb2)
  replace k1 := Lib.hid (k1.out.keep hb2)
  clear hb2
  have y0 := keepa (o := .cells #[.int .i64 r, .int .i64 s] 85) (k1.out.cell (i := 0) rfl); have y1 := keepa (o := .cells #[.int .i64 r, .int .i64 s] 85) (k1.out.cell (i := 1) rfl)
  go_wp2_with fail
  clear y0 y1
  have hb2 := below_new1 w2 (.cells #[.int .i64 r, .int .i64 s] 85)
  replace HB := Lib.hid (HB.out.trans (hb2.mono HB.out.size))
  replace kx := Lib.hid (kx.out.keep hb2)
  replace ky := Lib.hid (ky.out.keep hb2)
  replace k1 := Lib.hid (k1.out.keep hb2)
  have k2 := Lib.hid (Lok.new w2 85 #[.int .i64 r, .int .i64 s])
  clear hb2
  generalize w2.alloc (.cells #[.int .i64 r, .int .i64 s] 85) = V2 at *
  generalize w2.heap.size = g2 at *
  (((with_reducible refine (C.out _).mono ?_); rintro e w3 ⟨rfl, hb3⟩); replace HB := Lib.hid (HB.out.trans (hb3.mono HB.out.size)); clear hb3)
  go_wp2
  go_ret
  exact ⟨rfl, HB.out⟩
end Go.Proofs.Ytfghjfgdjlkooaa
