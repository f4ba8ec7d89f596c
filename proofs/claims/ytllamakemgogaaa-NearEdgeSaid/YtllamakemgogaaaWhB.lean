/-
  Contracts of package whole and of its reference: Clamp; the reference's Floor and Ceil.
-/
import Derived.Test.YtllamakemgogaaaWhA
namespace Go.Proofs.Ytllamakemgogaaa
open Go.RowKit

set_option maxHeartbeats 1000000 in
theorem rfloor_ok (a b : Int) (w : World) (h : Dvb a b) (ia : In64 a) (ib : In64 b) :
    Calls Try.prog 48 #[.int .i64 a, .int .i64 b] w fun e w' => e = .returned (.tuple #[.int .i64 (flQ a b), .int .i64 (flR a b), .int .i64 0]) ∧ Below w.heap.size w w' := by
  have td := td_bd a b h.1 ia.1 ia.2 h.2
  have tm := tm_bd a b h.1
  obtain ⟨t1, t2, t3⟩ := td
  obtain ⟨h0, h9⟩ := h
  obtain ⟨i1, i2⟩ := ia
  obtain ⟨i3, i4⟩ := ib
  have d0 : (b == 0) = false := by rw [beq_eq_false_iff_ne]; exact h0
  have dd : ((a == -9223372036854775808) = true ∧ (b == -1) = false) ∨ (a == -9223372036854775808) = false := by
    by_cases k : a = -9223372036854775808
    · exact .inl ⟨beq_iff_eq.2 k, by rw [beq_eq_false_iff_ne]; exact fun k2 => h9 ⟨k, k2⟩⟩
    · exact .inr (by rw [beq_eq_false_iff_ne]; exact k)
  clear h9
  rcases dd with ⟨d1, d2⟩ | d1
  · by_cases k : a.tmod b = 0
    · have k1 : (a.tmod b != 0) = false := by rw [k]; rfl
      have E := Lib.hid (fl_same (a := a) (b := b) (fun q => q.1 k))
      clear k tm t3
      go_enter Try.func48, Try.ntmps48
      go_wp2
      go_ret3
      exact ⟨ret_int3 0 ⟨E.out.1.symm, E.out.2.symm⟩, by (repeat (first | exact Below.refl _ _ | assumption | refine Below.drew ?_ | refine below_drewN ?_ _ | refine Below.setCell ?_ (by first | omega | (simp; done) | (simp; omega)) _ | refine Below.alloc ?_ (by first | omega | (simp; done) | (simp; omega)) _))⟩
    · have k1 : (a.tmod b != 0) = true := by rw [bne_iff_ne]; exact k
      have t4 := t3 k
      clear t3
      obtain ⟨t6, t7⟩ := t4
      by_cases s1 : a.tmod b < 0 <;> by_cases s2 : b < 0
      · have e1 : decide (a.tmod b < 0) = true := decide_eq_true s1
        have e2 : decide (b < 0) = true := decide_eq_true s2
        have E := Lib.hid (fl_same (a := a) (b := b) (fun q => q.2 (⟨fun _ => s2, fun _ => s1⟩)))
        clear k tm
        go_enter Try.func48, Try.ntmps48
        go_wp2
        go_ret3
        exact ⟨ret_int3 0 ⟨E.out.1.symm, E.out.2.symm⟩, by (repeat (first | exact Below.refl _ _ | assumption | refine Below.drew ?_ | refine below_drewN ?_ _ | refine Below.setCell ?_ (by first | omega | (simp; done) | (simp; omega)) _ | refine Below.alloc ?_ (by first | omega | (simp; done) | (simp; omega)) _))⟩
      · have e1 : decide (a.tmod b < 0) = true := decide_eq_true s1
        have e2 : decide (b < 0) = false := decide_eq_false s2
        have E := Lib.hid (fl_adj (a := a) (b := b) ⟨k, fun q => s2 (q.1 s1)⟩)
        obtain ⟨t8, t9⟩ := tm.1 (by omega)
        clear k tm
        go_enter Try.func48, Try.ntmps48
        go_wp2
        go_ret3
        exact ⟨ret_int3 0 ⟨E.out.1.symm, E.out.2.symm⟩, by (repeat (first | exact Below.refl _ _ | assumption | refine Below.drew ?_ | refine below_drewN ?_ _ | refine Below.setCell ?_ (by first | omega | (simp; done) | (simp; omega)) _ | refine Below.alloc ?_ (by first | omega | (simp; done) | (simp; omega)) _))⟩
      · have e1 : decide (a.tmod b < 0) = false := decide_eq_false s1
        have e2 : decide (b < 0) = true := decide_eq_true s2
        have E := Lib.hid (fl_adj (a := a) (b := b) ⟨k, fun q => s1 (q.2 s2)⟩)
        obtain ⟨t8, t9⟩ := tm.2 (by omega)
        clear k tm
        go_enter Try.func48, Try.ntmps48
        go_wp2
        go_ret3
        exact ⟨ret_int3 0 ⟨E.out.1.symm, E.out.2.symm⟩, by (repeat (first | exact Below.refl _ _ | assumption | refine Below.drew ?_ | refine below_drewN ?_ _ | refine Below.setCell ?_ (by first | omega | (simp; done) | (simp; omega)) _ | refine Below.alloc ?_ (by first | omega | (simp; done) | (simp; omega)) _))⟩
      · have e1 : decide (a.tmod b < 0) = false := decide_eq_false s1
        have e2 : decide (b < 0) = false := decide_eq_false s2
        have E := Lib.hid (fl_same (a := a) (b := b) (fun q => q.2 (⟨fun c => absurd c s1, fun c => absurd c s2⟩)))
        clear k tm
        go_enter Try.func48, Try.ntmps48
        go_wp2
        go_ret3
        exact ⟨ret_int3 0 ⟨E.out.1.symm, E.out.2.symm⟩, by (repeat (first | exact Below.refl _ _ | assumption | refine Below.drew ?_ | refine below_drewN ?_ _ | refine Below.setCell ?_ (by first | omega | (simp; done) | (simp; omega)) _ | refine Below.alloc ?_ (by first | omega | (simp; done) | (simp; omega)) _))⟩
  · by_cases k : a.tmod b = 0
    · have k1 : (a.tmod b != 0) = false := by rw [k]; rfl
      have E := Lib.hid (fl_same (a := a) (b := b) (fun q => q.1 k))
      clear k tm t3
      go_enter Try.func48, Try.ntmps48
      go_wp2
      go_ret3
      exact ⟨ret_int3 0 ⟨E.out.1.symm, E.out.2.symm⟩, by (repeat (first | exact Below.refl _ _ | assumption | refine Below.drew ?_ | refine below_drewN ?_ _ | refine Below.setCell ?_ (by first | omega | (simp; done) | (simp; omega)) _ | refine Below.alloc ?_ (by first | omega | (simp; done) | (simp; omega)) _))⟩
    · have k1 : (a.tmod b != 0) = true := by rw [bne_iff_ne]; exact k
      have t4 := t3 k
      clear t3
      obtain ⟨t6, t7⟩ := t4
      by_cases s1 : a.tmod b < 0 <;> by_cases s2 : b < 0
      · have e1 : decide (a.tmod b < 0) = true := decide_eq_true s1
        have e2 : decide (b < 0) = true := decide_eq_true s2
        have E := Lib.hid (fl_same (a := a) (b := b) (fun q => q.2 (⟨fun _ => s2, fun _ => s1⟩)))
        clear k tm
        go_enter Try.func48, Try.ntmps48
        go_wp2
        go_ret3
        exact ⟨ret_int3 0 ⟨E.out.1.symm, E.out.2.symm⟩, by (repeat (first | exact Below.refl _ _ | assumption | refine Below.drew ?_ | refine below_drewN ?_ _ | refine Below.setCell ?_ (by first | omega | (simp; done) | (simp; omega)) _ | refine Below.alloc ?_ (by first | omega | (simp; done) | (simp; omega)) _))⟩
      · have e1 : decide (a.tmod b < 0) = true := decide_eq_true s1
        have e2 : decide (b < 0) = false := decide_eq_false s2
        have E := Lib.hid (fl_adj (a := a) (b := b) ⟨k, fun q => s2 (q.1 s1)⟩)
        obtain ⟨t8, t9⟩ := tm.1 (by omega)
        clear k tm
        go_enter Try.func48, Try.ntmps48
        go_wp2
        go_ret3
        exact ⟨ret_int3 0 ⟨E.out.1.symm, E.out.2.symm⟩, by (repeat (first | exact Below.refl _ _ | assumption | refine Below.drew ?_ | refine below_drewN ?_ _ | refine Below.setCell ?_ (by first | omega | (simp; done) | (simp; omega)) _ | refine Below.alloc ?_ (by first | omega | (simp; done) | (simp; omega)) _))⟩
      · have e1 : decide (a.tmod b < 0) = false := decide_eq_false s1
        have e2 : decide (b < 0) = true := decide_eq_true s2
        have E := Lib.hid (fl_adj (a := a) (b := b) ⟨k, fun q => s1 (q.2 s2)⟩)
        obtain ⟨t8, t9⟩ := tm.2 (by omega)
        clear k tm
        go_enter Try.func48, Try.ntmps48
        go_wp2
        go_ret3
        exact ⟨ret_int3 0 ⟨E.out.1.symm, E.out.2.symm⟩, by (repeat (first | exact Below.refl _ _ | assumption | refine Below.drew ?_ | refine below_drewN ?_ _ | refine Below.setCell ?_ (by first | omega | (simp; done) | (simp; omega)) _ | refine Below.alloc ?_ (by first | omega | (simp; done) | (simp; omega)) _))⟩
      · have e1 : decide (a.tmod b < 0) = false := decide_eq_false s1
        have e2 : decide (b < 0) = false := decide_eq_false s2
        have E := Lib.hid (fl_same (a := a) (b := b) (fun q => q.2 (⟨fun c => absurd c s1, fun c => absurd c s2⟩)))
        clear k tm
        go_enter Try.func48, Try.ntmps48
        go_wp2
        go_ret3
        exact ⟨ret_int3 0 ⟨E.out.1.symm, E.out.2.symm⟩, by (repeat (first | exact Below.refl _ _ | assumption | refine Below.drew ?_ | refine below_drewN ?_ _ | refine Below.setCell ?_ (by first | omega | (simp; done) | (simp; omega)) _ | refine Below.alloc ?_ (by first | omega | (simp; done) | (simp; omega)) _))⟩
theorem rfloor_zero (a : Int) (w : World) :
    Calls Try.prog 48 #[.int .i64 a, .int .i64 0] w fun e w' => e = .returned (.tuple #[.int .i64 0, .int .i64 0, .int .i64 3]) ∧ Below w.heap.size w w' := by
  go_enter Try.func48, Try.ntmps48
  go_wp2
  go_ret3
  exact ⟨rfl, by (repeat (first | exact Below.refl _ _ | assumption | refine Below.drew ?_ | refine below_drewN ?_ _ | refine Below.setCell ?_ (by first | omega | (simp; done) | (simp; omega)) _ | refine Below.alloc ?_ (by first | omega | (simp; done) | (simp; omega)) _))⟩
theorem rfloor_wide (w : World) :
    Calls Try.prog 48 #[.int .i64 (-9223372036854775808), .int .i64 (-1)] w fun e w' => e = .returned (.tuple #[.int .i64 0, .int .i64 0, .int .i64 4]) ∧ Below w.heap.size w w' := by
  go_enter Try.func48, Try.ntmps48
  go_wp2
  go_ret3
  exact ⟨rfl, by (repeat (first | exact Below.refl _ _ | assumption | refine Below.drew ?_ | refine below_drewN ?_ _ | refine Below.setCell ?_ (by first | omega | (simp; done) | (simp; omega)) _ | refine Below.alloc ?_ (by first | omega | (simp; done) | (simp; omega)) _))⟩
theorem rfloor_any (a b : Int) (w : World) (ia : In64 a) (ib : In64 b) :
    Calls Try.prog 48 #[.int .i64 a, .int .i64 b] w fun e w' => e = .returned (.tuple #[.int .i64 (fQ a b), .int .i64 (fR a b), .int .i64 (fE a b)]) ∧ Below w.heap.size w w' := by
  unfold fQ fR
  rcases fE_ways a b with ⟨h, e⟩ | ⟨rfl, e⟩ | ⟨rfl, rfl, e⟩
  · rw [e, if_pos rfl, if_pos rfl]; exact rfloor_ok a b w h ia ib
  · rw [e, if_neg (by decide), if_neg (by decide)]; exact rfloor_zero a w
  · rw [e, if_neg (by decide), if_neg (by decide)]; exact rfloor_wide w
end Go.Proofs.Ytllamakemgogaaa
