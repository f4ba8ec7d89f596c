/-
  The reference limewashref04: under, Axis.
-/
import Derived.Test.YticjljbglimgeaaVcR
import Derived.Test.YticjljbglimgeaaVcG
namespace Go.Proofs.Yticjljbglimgeaa
open Go.RowKit

set_option maxRecDepth 100000 in
set_option maxHeartbeats 1000000 in
theorem under_any (n : Int) (w : World) (h : I64 n) :
    Calls Try.prog 48 #[.int .i64 n] w fun e w' => e = .returned (.int .i64 (bl n)) ∧ Below w.heap.size w w' := by
  unfold I64 at h
  unfold bl
  by_cases k : 0 < n
  · have d : decide (0 < n) = true := decide_eq_true k
    have e : IntKind.i64.wrap (-n) = -n := IntWalk.i64_in _ (by omega)
    rw [show (n.natAbs : Int) = n from by omega]
    clear h
    go_enter Try.func48, Try.ntmps48
    go_wp2
    go_ret
    exact ⟨rfl, by (repeat (first | exact Below.refl _ _ | assumption | refine Below.drew ?_ | refine below_drewN ?_ _ | refine Below.setCell ?_ (by first | omega | (simp; done) | (simp; omega)) _ | refine Below.alloc ?_ (by first | omega | (simp; done) | (simp; omega)) _))⟩
  · have d : decide (0 < n) = false := decide_eq_false k
    rw [show -(n.natAbs : Int) = n from by omega]
    clear h
    go_enter Try.func48, Try.ntmps48
    go_wp2
    go_ret
    exact ⟨rfl, by (repeat (first | exact Below.refl _ _ | assumption | refine Below.drew ?_ | refine below_drewN ?_ _ | refine Below.setCell ?_ (by first | omega | (simp; done) | (simp; omega)) _ | refine Below.alloc ?_ (by first | omega | (simp; done) | (simp; omega)) _))⟩

theorem axF_ref (a b c : Int) : ((axF a b c 3 : Nat) : Int) = if bl a ≤ bl b ∧ bl a ≤ bl c then 0 else if bl b ≤ bl c then 1 else 2 := by
  have e1 : axF a b c 1 = 0 := by
    by_cases s : bl (pt a b c 0) < bl (pt a b c (axF a b c 0))
    · rw [axF_take s]
    · rw [axF_keep s]; rfl
  have p0 : pt a b c 0 = a := rfl
  have p1 : pt a b c 1 = b := rfl
  have p2 : pt a b c 2 = c := rfl
  by_cases s : bl b < bl a
  · have e2 : axF a b c 2 = 1 := axF_take (k := 1) (by rw [e1, p1, p0]; exact s)
    by_cases r : bl c < bl b
    · rw [axF_take (k := 2) (by rw [e2, p1, p2]; exact r), if_neg (by omega), if_neg (by omega)]; rfl
    · rw [axF_keep (k := 2) (by rw [e2, p1, p2]; exact r), e2, if_neg (by omega), if_pos (by omega)]; rfl
  · have e2 : axF a b c 2 = 0 := by rw [axF_keep (k := 1) (by rw [e1, p1, p0]; exact s), e1]
    by_cases r : bl c < bl a
    · rw [axF_take (k := 2) (by rw [e2, p0, p2]; exact r), if_neg (by omega), if_neg (by omega)]; rfl
    · rw [axF_keep (k := 2) (by rw [e2, p0, p2]; exact r), e2, if_pos (by omega)]; rfl

set_option maxRecDepth 100000 in
set_option maxHeartbeats 1000000 in
theorem raxis_any (a b c : Int) (w : World) (ha : I64 a) (hb : I64 b) (hc : I64 c) :
    Calls Try.prog 37 #[.agg #[.int .i64 a, .int .i64 b, .int .i64 c]] w fun e w' => e = .returned (.int .i64 (axF a b c 3)) ∧ Below w.heap.size w w' := by
  have HB := Lib.hid (Below.refl w.heap.size w)
  have U1 := Lib.hid (fun W => under_any a W ha)
  have U2 := Lib.hid (fun W => under_any b W hb)
  have U3 := Lib.hid (fun W => under_any c W hc)
  rw [axF_ref]
  clear ha hb hc
  generalize bl a = x at *
  generalize bl b = y at *
  generalize bl c = z at *
  have W4 : (x ≤ y ∧ x ≤ z) ∨ (x ≤ y ∧ ¬ x ≤ z ∧ ¬ y ≤ z) ∨ (¬ x ≤ y ∧ y ≤ z) ∨ (¬ x ≤ y ∧ ¬ y ≤ z) := by omega
  rcases W4 with ⟨h1, h2⟩ | ⟨h1, h2, h3⟩ | ⟨h1, h2⟩ | ⟨h1, h2⟩
  · rw [if_pos ⟨h1, h2⟩]
    have d1 : decide (x ≤ y) = true := decide_eq_true h1
    have d2 : decide (x ≤ z) = true := decide_eq_true h2
    go_enter Try.func37, Try.ntmps37
    go_upto_region 1 with fail
    have hbx := below_new1 w (.cells #[.int .i64 a, .int .i64 b, .int .i64 c] 25)
    have zx : (w.alloc (.cells #[.int .i64 a, .int .i64 b, .int .i64 c] 25)).heap.size = w.heap.size + 1 := by simp
    have HB := Lib.hid hbx
    have kx := Lib.hid (Lok.new w 25 #[.int .i64 a, .int .i64 b, .int .i64 c])
    clear hbx
    generalize w.alloc (.cells #[.int .i64 a, .int .i64 b, .int .i64 c] 25) = Vx at *
    clear zx
    have x0 := kx.out.cell (i := 0) rfl
    go_wp2_with fail
    clear x0
    (((with_reducible refine (U1.out _).mono ?_); rintro e w1 ⟨rfl, hb1⟩); replace HB := Lib.hid (HB.out.trans (hb1.mono HB.out.size)); replace kx := Lib.hid (kx.out.keep hb1); clear hb1)
    have x1 := kx.out.cell (i := 1) rfl
    go_wp2_with fail
    clear x1
    (((with_reducible refine (U2.out _).mono ?_); rintro e w2 ⟨rfl, hb2⟩); replace HB := Lib.hid (HB.out.trans (hb2.mono HB.out.size)); replace kx := Lib.hid (kx.out.keep hb2); clear hb2)
    have x2 := kx.out.cell (i := 2) rfl
    go_wp2_with fail
    clear x2
    (((with_reducible refine (U3.out _).mono ?_); rintro e w3 ⟨rfl, hb3⟩); replace HB := Lib.hid (HB.out.trans (hb3.mono HB.out.size)); clear hb3)
    go_wp2
    go_ret
    exact ⟨rfl, HB.out⟩
  · rw [if_neg (by omega), if_neg (by omega)]
    have d1 : decide (x ≤ y) = true := decide_eq_true h1
    have d2 : decide (x ≤ z) = false := decide_eq_false h2
    have d3 : decide (y ≤ z) = false := decide_eq_false h3
    go_enter Try.func37, Try.ntmps37
    go_upto_region 1 with fail
    have hbx := below_new1 w (.cells #[.int .i64 a, .int .i64 b, .int .i64 c] 25)
    have zx : (w.alloc (.cells #[.int .i64 a, .int .i64 b, .int .i64 c] 25)).heap.size = w.heap.size + 1 := by simp
    have HB := Lib.hid hbx
    have kx := Lib.hid (Lok.new w 25 #[.int .i64 a, .int .i64 b, .int .i64 c])
    clear hbx
    generalize w.alloc (.cells #[.int .i64 a, .int .i64 b, .int .i64 c] 25) = Vx at *
    clear zx
    have x0 := kx.out.cell (i := 0) rfl
    go_wp2_with fail
    clear x0
    (((with_reducible refine (U1.out _).mono ?_); rintro e w1 ⟨rfl, hb1⟩); replace HB := Lib.hid (HB.out.trans (hb1.mono HB.out.size)); replace kx := Lib.hid (kx.out.keep hb1); clear hb1)
    have x1 := kx.out.cell (i := 1) rfl
    go_wp2_with fail
    clear x1
    (((with_reducible refine (U2.out _).mono ?_); rintro e w2 ⟨rfl, hb2⟩); replace HB := Lib.hid (HB.out.trans (hb2.mono HB.out.size)); replace kx := Lib.hid (kx.out.keep hb2); clear hb2)
    have x2 := kx.out.cell (i := 2) rfl
    go_wp2_with fail
    clear x2
    (((with_reducible refine (U3.out _).mono ?_); rintro e w3 ⟨rfl, hb3⟩); replace HB := Lib.hid (HB.out.trans (hb3.mono HB.out.size)); clear hb3)
    go_wp2
    go_ret
    exact ⟨rfl, HB.out⟩
  · rw [if_neg (by omega), if_pos (by omega)]
    have d1 : decide (x ≤ y) = false := decide_eq_false h1
    have d3 : decide (y ≤ z) = true := decide_eq_true h2
    go_enter Try.func37, Try.ntmps37
    go_upto_region 1 with fail
    have hbx := below_new1 w (.cells #[.int .i64 a, .int .i64 b, .int .i64 c] 25)
    have zx : (w.alloc (.cells #[.int .i64 a, .int .i64 b, .int .i64 c] 25)).heap.size = w.heap.size + 1 := by simp
    have HB := Lib.hid hbx
    have kx := Lib.hid (Lok.new w 25 #[.int .i64 a, .int .i64 b, .int .i64 c])
    clear hbx
    generalize w.alloc (.cells #[.int .i64 a, .int .i64 b, .int .i64 c] 25) = Vx at *
    clear zx
    have x0 := kx.out.cell (i := 0) rfl
    go_wp2_with fail
    clear x0
    (((with_reducible refine (U1.out _).mono ?_); rintro e w1 ⟨rfl, hb1⟩); replace HB := Lib.hid (HB.out.trans (hb1.mono HB.out.size)); replace kx := Lib.hid (kx.out.keep hb1); clear hb1)
    have x1 := kx.out.cell (i := 1) rfl
    go_wp2_with fail
    clear x1
    (((with_reducible refine (U2.out _).mono ?_); rintro e w2 ⟨rfl, hb2⟩); replace HB := Lib.hid (HB.out.trans (hb2.mono HB.out.size)); replace kx := Lib.hid (kx.out.keep hb2); clear hb2)
    have x2 := kx.out.cell (i := 2) rfl
    go_wp2_with fail
    clear x2
    (((with_reducible refine (U3.out _).mono ?_); rintro e w3 ⟨rfl, hb3⟩); replace HB := Lib.hid (HB.out.trans (hb3.mono HB.out.size)); clear hb3)
    go_wp2
    go_ret
    exact ⟨rfl, HB.out⟩
  · rw [if_neg (by omega), if_neg (by omega)]
    have d1 : decide (x ≤ y) = false := decide_eq_false h1
    have d3 : decide (y ≤ z) = false := decide_eq_false h2
    go_enter Try.func37, Try.ntmps37
    go_upto_region 1 with fail
    have hbx := below_new1 w (.cells #[.int .i64 a, .int .i64 b, .int .i64 c] 25)
    have zx : (w.alloc (.cells #[.int .i64 a, .int .i64 b, .int .i64 c] 25)).heap.size = w.heap.size + 1 := by simp
    have HB := Lib.hid hbx
    have kx := Lib.hid (Lok.new w 25 #[.int .i64 a, .int .i64 b, .int .i64 c])
    clear hbx
    generalize w.alloc (.cells #[.int .i64 a, .int .i64 b, .int .i64 c] 25) = Vx at *
    clear zx
    have x0 := kx.out.cell (i := 0) rfl
    go_wp2_with fail
    clear x0
    (((with_reducible refine (U1.out _).mono ?_); rintro e w1 ⟨rfl, hb1⟩); replace HB := Lib.hid (HB.out.trans (hb1.mono HB.out.size)); replace kx := Lib.hid (kx.out.keep hb1); clear hb1)
    have x1 := kx.out.cell (i := 1) rfl
    go_wp2_with fail
    clear x1
    (((with_reducible refine (U2.out _).mono ?_); rintro e w2 ⟨rfl, hb2⟩); replace HB := Lib.hid (HB.out.trans (hb2.mono HB.out.size)); replace kx := Lib.hid (kx.out.keep hb2); clear hb2)
    have x2 := kx.out.cell (i := 2) rfl
    go_wp2_with fail
    clear x2
    (((with_reducible refine (U3.out _).mono ?_); rintro e w3 ⟨rfl, hb3⟩); replace HB := Lib.hid (HB.out.trans (hb3.mono HB.out.size)); clear hb3)
    go_wp2
    go_ret
    exact ⟨rfl, HB.out⟩
end Go.Proofs.Yticjljbglimgeaa
