/-
  The reference limewashref04: near, Is2, Is3, Sub2, Sub3, Dot, Cross2, Cross3.
-/
import Derived.Test.YtkheomaihhcokaaGaB
namespace Go.Proofs.Ytkheomaihhcokaa
open Go.RowKit

set_option maxRecDepth 100000 in
set_option maxHeartbeats 1000000 in
theorem rnear_any (n : Int) (w : World) :
    Calls Try.prog 87 #[.int .i64 n] w fun e w' => e = .returned (.bool (nB n)) ∧ Below w.heap.size w w' := by
  by_cases h1 : -1048576 ≤ n
  · by_cases h2 : n ≤ 1048576
    · rw [show nB n = true from nB_iff.2 ⟨h1, h2⟩]
      go_enter Try.func87, Try.ntmps87
      go_wp2
      go_ret
      exact ⟨rfl, by (repeat (first | exact Below.refl _ _ | assumption | refine Below.drew ?_ | refine below_drewN ?_ _ | refine Below.setCell ?_ (by first | omega | (simp; done) | (simp; omega)) _ | refine Below.alloc ?_ (by first | omega | (simp; done) | (simp; omega)) _))⟩
    · rw [show nB n = false from nB_not.2 (fun h => h2 h.2)]
      have d2 : decide (n ≤ 1048576) = false := decide_eq_false h2
      go_enter Try.func87, Try.ntmps87
      go_wp2
      go_ret
      exact ⟨rfl, by (repeat (first | exact Below.refl _ _ | assumption | refine Below.drew ?_ | refine below_drewN ?_ _ | refine Below.setCell ?_ (by first | omega | (simp; done) | (simp; omega)) _ | refine Below.alloc ?_ (by first | omega | (simp; done) | (simp; omega)) _))⟩
  · rw [show nB n = false from nB_not.2 (fun h => h1 h.1)]
    have d1 : decide (-1048576 ≤ n) = false := decide_eq_false h1
    go_enter Try.func87, Try.ntmps87
    go_wp2
    go_ret
    exact ⟨rfl, by (repeat (first | exact Below.refl _ _ | assumption | refine Below.drew ?_ | refine below_drewN ?_ _ | refine Below.setCell ?_ (by first | omega | (simp; done) | (simp; omega)) _ | refine Below.alloc ?_ (by first | omega | (simp; done) | (simp; omega)) _))⟩
set_option maxRecDepth 100000 in
set_option maxHeartbeats 1000000 in
theorem ris2_any (a b : Int) (w : World) :
    Calls Try.prog 76 #[.agg #[.int .i64 a, .int .i64 b]] w fun e w' => e = .returned (.bool (n2 a b)) ∧ Below w.heap.size w w' := by
  have HB := Lib.hid (Below.refl w.heap.size w)
  unfold n2
  have Na := Lib.hid (fun W => rnear_any a W)
  have Nb := Lib.hid (fun W => rnear_any b W)
  generalize nB a = pa at *
  generalize nB b = pb at *
  cases pa with
  | false =>
    go_enter Try.func76, Try.ntmps76
    go_upto_region 1 with fail
    have hbx := below_new1 w (.cells #[.int .i64 a, .int .i64 b] 90)
    have zx : (w.alloc (.cells #[.int .i64 a, .int .i64 b] 90)).heap.size = w.heap.size + 1 := by simp
    have HB := Lib.hid hbx
    have kx := Lib.hid (Lok.new w 90 #[.int .i64 a, .int .i64 b])
    clear hbx
    generalize w.alloc (.cells #[.int .i64 a, .int .i64 b] 90) = Vx at *
    clear zx
    have x0 := kx.out.cell (i := 0) rfl
    go_wp2_with fail
    clear x0
    (((with_reducible refine (Na.out _).mono ?_); rintro e w1 ⟨rfl, hb1⟩); replace HB := Lib.hid (HB.out.trans (hb1.mono HB.out.size)); replace kx := Lib.hid (kx.out.keep hb1); clear hb1)
    go_wp2
    go_ret
    exact ⟨rfl, HB.out⟩
  | true =>
    cases pb with
    | false =>
      go_enter Try.func76, Try.ntmps76
      go_upto_region 1 with fail
      have hbx := below_new1 w (.cells #[.int .i64 a, .int .i64 b] 90)
      have zx : (w.alloc (.cells #[.int .i64 a, .int .i64 b] 90)).heap.size = w.heap.size + 1 := by simp
      have HB := Lib.hid hbx
      have kx := Lib.hid (Lok.new w 90 #[.int .i64 a, .int .i64 b])
      clear hbx
      generalize w.alloc (.cells #[.int .i64 a, .int .i64 b] 90) = Vx at *
      clear zx
      have x0 := kx.out.cell (i := 0) rfl
      go_wp2_with fail
      clear x0
      (((with_reducible refine (Na.out _).mono ?_); rintro e w1 ⟨rfl, hb1⟩); replace HB := Lib.hid (HB.out.trans (hb1.mono HB.out.size)); replace kx := Lib.hid (kx.out.keep hb1); clear hb1)
      have x1 := kx.out.cell (i := 1) rfl
      go_wp2_with fail
      clear x1
      (((with_reducible refine (Nb.out _).mono ?_); rintro e w2 ⟨rfl, hb2⟩); replace HB := Lib.hid (HB.out.trans (hb2.mono HB.out.size)); replace kx := Lib.hid (kx.out.keep hb2); clear hb2)
      go_wp2
      go_ret
      exact ⟨rfl, HB.out⟩
    | true =>
      go_enter Try.func76, Try.ntmps76
      go_upto_region 1 with fail
      have hbx := below_new1 w (.cells #[.int .i64 a, .int .i64 b] 90)
      have zx : (w.alloc (.cells #[.int .i64 a, .int .i64 b] 90)).heap.size = w.heap.size + 1 := by simp
      have HB := Lib.hid hbx
      have kx := Lib.hid (Lok.new w 90 #[.int .i64 a, .int .i64 b])
      clear hbx
      generalize w.alloc (.cells #[.int .i64 a, .int .i64 b] 90) = Vx at *
      clear zx
      have x0 := kx.out.cell (i := 0) rfl
      go_wp2_with fail
      clear x0
      (((with_reducible refine (Na.out _).mono ?_); rintro e w1 ⟨rfl, hb1⟩); replace HB := Lib.hid (HB.out.trans (hb1.mono HB.out.size)); replace kx := Lib.hid (kx.out.keep hb1); clear hb1)
      have x1 := kx.out.cell (i := 1) rfl
      go_wp2_with fail
      clear x1
      (((with_reducible refine (Nb.out _).mono ?_); rintro e w2 ⟨rfl, hb2⟩); replace HB := Lib.hid (HB.out.trans (hb2.mono HB.out.size)); replace kx := Lib.hid (kx.out.keep hb2); clear hb2)
      go_wp2
      go_ret
      exact ⟨rfl, HB.out⟩
set_option maxRecDepth 100000 in
set_option maxHeartbeats 1000000 in
theorem ris3_any (a b c : Int) (w : World) :
    Calls Try.prog 75 #[.agg #[.int .i64 a, .int .i64 b, .int .i64 c]] w fun e w' => e = .returned (.bool (n3 a b c)) ∧ Below w.heap.size w w' := by
  have HB := Lib.hid (Below.refl w.heap.size w)
  unfold n3
  have Na := Lib.hid (fun W => rnear_any a W)
  have Nb := Lib.hid (fun W => rnear_any b W)
  have Nc := Lib.hid (fun W => rnear_any c W)
  generalize nB a = pa at *
  generalize nB b = pb at *
  generalize nB c = pc at *
  cases pa with
  | false =>
    go_enter Try.func75, Try.ntmps75
    go_upto_region 1 with fail
    have hbx := below_new1 w (.cells #[.int .i64 a, .int .i64 b, .int .i64 c] 87)
    have zx : (w.alloc (.cells #[.int .i64 a, .int .i64 b, .int .i64 c] 87)).heap.size = w.heap.size + 1 := by simp
    have HB := Lib.hid hbx
    have kx := Lib.hid (Lok.new w 87 #[.int .i64 a, .int .i64 b, .int .i64 c])
    clear hbx
    generalize w.alloc (.cells #[.int .i64 a, .int .i64 b, .int .i64 c] 87) = Vx at *
    clear zx
    have x0 := kx.out.cell (i := 0) rfl
    go_wp2_with fail
    clear x0
    (((with_reducible refine (Na.out _).mono ?_); rintro e w1 ⟨rfl, hb1⟩); replace HB := Lib.hid (HB.out.trans (hb1.mono HB.out.size)); replace kx := Lib.hid (kx.out.keep hb1); clear hb1)
    go_wp2
    go_ret
    exact ⟨rfl, HB.out⟩
  | true =>
    cases pb with
    | false =>
      go_enter Try.func75, Try.ntmps75
      go_upto_region 1 with fail
      have hbx := below_new1 w (.cells #[.int .i64 a, .int .i64 b, .int .i64 c] 87)
      have zx : (w.alloc (.cells #[.int .i64 a, .int .i64 b, .int .i64 c] 87)).heap.size = w.heap.size + 1 := by simp
      have HB := Lib.hid hbx
      have kx := Lib.hid (Lok.new w 87 #[.int .i64 a, .int .i64 b, .int .i64 c])
      clear hbx
      generalize w.alloc (.cells #[.int .i64 a, .int .i64 b, .int .i64 c] 87) = Vx at *
      clear zx
      have x0 := kx.out.cell (i := 0) rfl
      go_wp2_with fail
      clear x0
      (((with_reducible refine (Na.out _).mono ?_); rintro e w1 ⟨rfl, hb1⟩); replace HB := Lib.hid (HB.out.trans (hb1.mono HB.out.size)); replace kx := Lib.hid (kx.out.keep hb1); clear hb1)
      have x1 := kx.out.cell (i := 1) rfl
      go_wp2_with fail
      clear x1
      (((with_reducible refine (Nb.out _).mono ?_); rintro e w2 ⟨rfl, hb2⟩); replace HB := Lib.hid (HB.out.trans (hb2.mono HB.out.size)); replace kx := Lib.hid (kx.out.keep hb2); clear hb2)
      go_wp2
      go_ret
      exact ⟨rfl, HB.out⟩
    | true =>
      cases pc with
      | false =>
        go_enter Try.func75, Try.ntmps75
        go_upto_region 1 with fail
        have hbx := below_new1 w (.cells #[.int .i64 a, .int .i64 b, .int .i64 c] 87)
        have zx : (w.alloc (.cells #[.int .i64 a, .int .i64 b, .int .i64 c] 87)).heap.size = w.heap.size + 1 := by simp
        have HB := Lib.hid hbx
        have kx := Lib.hid (Lok.new w 87 #[.int .i64 a, .int .i64 b, .int .i64 c])
        clear hbx
        generalize w.alloc (.cells #[.int .i64 a, .int .i64 b, .int .i64 c] 87) = Vx at *
        clear zx
        have x0 := kx.out.cell (i := 0) rfl
        go_wp2_with fail
        clear x0
        (((with_reducible refine (Na.out _).mono ?_); rintro e w1 ⟨rfl, hb1⟩); replace HB := Lib.hid (HB.out.trans (hb1.mono HB.out.size)); replace kx := Lib.hid (kx.out.keep hb1); clear hb1)
        have x1 := kx.out.cell (i := 1) rfl
        go_wp2_with fail
        clear x1
        (((with_reducible refine (Nb.out _).mono ?_); rintro e w2 ⟨rfl, hb2⟩); replace HB := Lib.hid (HB.out.trans (hb2.mono HB.out.size)); replace kx := Lib.hid (kx.out.keep hb2); clear hb2)
        have x2 := kx.out.cell (i := 2) rfl
        go_wp2_with fail
        clear x2
        (((with_reducible refine (Nc.out _).mono ?_); rintro e w3 ⟨rfl, hb3⟩); replace HB := Lib.hid (HB.out.trans (hb3.mono HB.out.size)); replace kx := Lib.hid (kx.out.keep hb3); clear hb3)
        go_wp2
        go_ret
        exact ⟨rfl, HB.out⟩
      | true =>
        go_enter Try.func75, Try.ntmps75
        go_upto_region 1 with fail
        have hbx := below_new1 w (.cells #[.int .i64 a, .int .i64 b, .int .i64 c] 87)
        have zx : (w.alloc (.cells #[.int .i64 a, .int .i64 b, .int .i64 c] 87)).heap.size = w.heap.size + 1 := by simp
        have HB := Lib.hid hbx
        have kx := Lib.hid (Lok.new w 87 #[.int .i64 a, .int .i64 b, .int .i64 c])
        clear hbx
        generalize w.alloc (.cells #[.int .i64 a, .int .i64 b, .int .i64 c] 87) = Vx at *
        clear zx
        have x0 := kx.out.cell (i := 0) rfl
        go_wp2_with fail
        clear x0
        (((with_reducible refine (Na.out _).mono ?_); rintro e w1 ⟨rfl, hb1⟩); replace HB := Lib.hid (HB.out.trans (hb1.mono HB.out.size)); replace kx := Lib.hid (kx.out.keep hb1); clear hb1)
        have x1 := kx.out.cell (i := 1) rfl
        go_wp2_with fail
        clear x1
        (((with_reducible refine (Nb.out _).mono ?_); rintro e w2 ⟨rfl, hb2⟩); replace HB := Lib.hid (HB.out.trans (hb2.mono HB.out.size)); replace kx := Lib.hid (kx.out.keep hb2); clear hb2)
        have x2 := kx.out.cell (i := 2) rfl
        go_wp2_with fail
        clear x2
        (((with_reducible refine (Nc.out _).mono ?_); rintro e w3 ⟨rfl, hb3⟩); replace HB := Lib.hid (HB.out.trans (hb3.mono HB.out.size)); replace kx := Lib.hid (kx.out.keep hb3); clear hb3)
        go_wp2
        go_ret
        exact ⟨rfl, HB.out⟩
theorem dot_wraps {a b c d e f : Int} (ha : NR a) (hb : NR b) (hc : NR c) (hd : NR d) (he : NR e) (hf : NR f) :
    IntKind.i64.wrap (a * d) = a * d ∧ IntKind.i64.wrap (b * e) = b * e ∧ IntKind.i64.wrap (c * f) = c * f ∧ IntKind.i64.wrap (a * d + b * e) = a * d + b * e ∧ IntKind.i64.wrap (a * d + b * e + c * f) = a * d + b * e + c * f := by
  have p := near_prod ha hd
  have q := near_prod hb he
  have r := near_prod hc hf
  exact ⟨IntWalk.i64_in _ (by omega), IntWalk.i64_in _ (by omega), IntWalk.i64_in _ (by omega), IntWalk.i64_in _ (by omega), IntWalk.i64_in _ (by omega)⟩
end Go.Proofs.Ytkheomaihhcokaa
