/-
  Contracts of package whole and of its reference: Clamp; the reference's Floor and Ceil.
-/
import Derived.Test.YtjndajndllimhaaWhA
namespace Go.Proofs.Ytjndajndllimhaa
open Go.RowKit

theorem clamp_arg (n lo hi : Int) (w : World) (h : hi < lo) :
    Calls Try.prog 18 #[.int .i64 n, .int .i64 lo, .int .i64 hi] w fun e w' => e = .returned (.tuple #[.int .i64 0, .int .i64 1]) ∧ Below w.heap.size w w' := by
  go_enter Try.func18, Try.ntmps18
  go_wp2
  go_ret2
  exact ⟨rfl, by (repeat (first | exact Below.refl _ _ | assumption | refine Below.drew ?_ | refine below_drewN ?_ _ | refine Below.setCell ?_ (by first | omega | (simp; done) | (simp; omega)) _ | refine Below.alloc ?_ (by first | omega | (simp; done) | (simp; omega)) _))⟩
theorem clamp_ok (n lo hi : Int) (w : World) (h : ¬ hi < lo) :
    Calls Try.prog 18 #[.int .i64 n, .int .i64 lo, .int .i64 hi] w fun e w' => e = .returned (.tuple #[.int .i64 (cP n lo hi), .int .i64 0]) ∧ Below w.heap.size w w' := by
  unfold cP
  rw [if_neg h]
  by_cases h1 : n < lo
  · rw [if_pos h1]
    go_enter Try.func18, Try.ntmps18
    go_wp2
    go_ret2
    exact ⟨rfl, by (repeat (first | exact Below.refl _ _ | assumption | refine Below.drew ?_ | refine below_drewN ?_ _ | refine Below.setCell ?_ (by first | omega | (simp; done) | (simp; omega)) _ | refine Below.alloc ?_ (by first | omega | (simp; done) | (simp; omega)) _))⟩
  · rw [if_neg h1]
    by_cases h2 : hi < n
    · rw [if_pos h2]
      go_enter Try.func18, Try.ntmps18
      go_wp2
      go_ret2
      exact ⟨rfl, by (repeat (first | exact Below.refl _ _ | assumption | refine Below.drew ?_ | refine below_drewN ?_ _ | refine Below.setCell ?_ (by first | omega | (simp; done) | (simp; omega)) _ | refine Below.alloc ?_ (by first | omega | (simp; done) | (simp; omega)) _))⟩
    · rw [if_neg h2]
      go_enter Try.func18, Try.ntmps18
      go_wp2
      go_ret2
      exact ⟨rfl, by (repeat (first | exact Below.refl _ _ | assumption | refine Below.drew ?_ | refine below_drewN ?_ _ | refine Below.setCell ?_ (by first | omega | (simp; done) | (simp; omega)) _ | refine Below.alloc ?_ (by first | omega | (simp; done) | (simp; omega)) _))⟩
theorem clamp_any (n lo hi : Int) (w : World) :
    Calls Try.prog 18 #[.int .i64 n, .int .i64 lo, .int .i64 hi] w fun e w' => e = .returned (.tuple #[.int .i64 (cP n lo hi), .int .i64 (cX lo hi)]) ∧ Below w.heap.size w w' := by
  by_cases h : hi < lo
  · have := clamp_arg n lo hi w h
    unfold cP cX; rw [if_pos h, if_pos h]; exact this
  · have := clamp_ok n lo hi w h
    unfold cX; rw [if_neg h]; exact this
theorem rclamp_arg (n lo hi : Int) (w : World) (h : hi < lo) :
    Calls Try.prog 19 #[.int .i64 n, .int .i64 lo, .int .i64 hi] w fun e w' => e = .returned (.tuple #[.int .i64 0, .int .i64 1]) ∧ Below w.heap.size w w' := by
  go_enter Try.func19, Try.ntmps19
  go_wp2
  go_ret2
  exact ⟨rfl, by (repeat (first | exact Below.refl _ _ | assumption | refine Below.drew ?_ | refine below_drewN ?_ _ | refine Below.setCell ?_ (by first | omega | (simp; done) | (simp; omega)) _ | refine Below.alloc ?_ (by first | omega | (simp; done) | (simp; omega)) _))⟩
theorem rclamp_ok (n lo hi : Int) (w : World) (h : ¬ hi < lo) :
    Calls Try.prog 19 #[.int .i64 n, .int .i64 lo, .int .i64 hi] w fun e w' => e = .returned (.tuple #[.int .i64 (cP n lo hi), .int .i64 0]) ∧ Below w.heap.size w w' := by
  unfold cP
  rw [if_neg h]
  by_cases h1 : n < lo
  · rw [if_pos h1]
    go_enter Try.func19, Try.ntmps19
    go_wp2
    go_ret2
    exact ⟨rfl, by (repeat (first | exact Below.refl _ _ | assumption | refine Below.drew ?_ | refine below_drewN ?_ _ | refine Below.setCell ?_ (by first | omega | (simp; done) | (simp; omega)) _ | refine Below.alloc ?_ (by first | omega | (simp; done) | (simp; omega)) _))⟩
  · rw [if_neg h1]
    by_cases h2 : hi < n
    · rw [if_pos h2]
      go_enter Try.func19, Try.ntmps19
      go_wp2
      go_ret2
      exact ⟨rfl, by (repeat (first | exact Below.refl _ _ | assumption | refine Below.drew ?_ | refine below_drewN ?_ _ | refine Below.setCell ?_ (by first | omega | (simp; done) | (simp; omega)) _ | refine Below.alloc ?_ (by first | omega | (simp; done) | (simp; omega)) _))⟩
    · rw [if_neg h2]
      go_enter Try.func19, Try.ntmps19
      go_wp2
      go_ret2
      exact ⟨rfl, by (repeat (first | exact Below.refl _ _ | assumption | refine Below.drew ?_ | refine below_drewN ?_ _ | refine Below.setCell ?_ (by first | omega | (simp; done) | (simp; omega)) _ | refine Below.alloc ?_ (by first | omega | (simp; done) | (simp; omega)) _))⟩
theorem rclamp_any (n lo hi : Int) (w : World) :
    Calls Try.prog 19 #[.int .i64 n, .int .i64 lo, .int .i64 hi] w fun e w' => e = .returned (.tuple #[.int .i64 (cP n lo hi), .int .i64 (cX lo hi)]) ∧ Below w.heap.size w w' := by
  by_cases h : hi < lo
  · have := rclamp_arg n lo hi w h
    unfold cP cX; rw [if_pos h, if_pos h]; exact this
  · have := rclamp_ok n lo hi w h
    unfold cX; rw [if_neg h]; exact this
set_option maxHeartbeats 1000000 in
theorem rfloor_ok (a b : Int) (w : World) (h : Dvb a b) (ia : In64 a) (ib : In64 b) :
    Calls Try.prog 11 #[.int .i64 a, .int .i64 b] w fun e w' => e = .returned (.tuple #[.int .i64 (flQ a b), .int .i64 (flR a b), .int .i64 0]) ∧ Below w.heap.size w w' := by
  have td := td_bd a b h.1 ia.1 ia.2 h.2
  have tm := tm_bd a b h.1
  obtain ⟨t1, t2, t3⟩ := td
  obtain ⟨h0, h9⟩ := h
  obtain ⟨i1, i2⟩ := ia
  obtain ⟨i3, i4⟩ := ib
  have d0 : (b == 0) = false := by rw [beq_eq_false_iff_ne]; exact h0
  have dd : ((a == -9223372036854775808) = true ∧ (b == -1) = false) ∨ (a == -9223372036854775808) = false := by
    by_cases k : a = -9223372036854775808
    · exact .inl ⟨beq_iff_eq.2 k, by rw [beq_eq_false_iff_ne]; exact fun k2 => h9 ⟨k, k2⟩⟩
    · exact .inr (by rw [beq_eq_false_iff_ne]; exact k)
  clear h9
  rcases dd with ⟨d1, d2⟩ | d1
  · by_cases k : a.tmod b = 0
    · have k1 : (a.tmod b != 0) = false := by rw [k]; rfl
      have E := Lib.hid (fl_same (a := a) (b := b) (fun q => q.1 k))
      clear k tm t3
      go_enter Try.func11, Try.ntmps11
      go_wp2
      go_ret3
      exact ⟨ret_int3 0 ⟨E.out.1.symm, E.out.2.symm⟩, by (repeat (first | exact Below.refl _ _ | assumption | refine Below.drew ?_ | refine below_drewN ?_ _ | refine Below.setCell ?_ (by first | omega | (simp; done) | (simp; omega)) _ | refine Below.alloc ?_ (by first | omega | (simp; done) | (simp; omega)) _))⟩
    · have k1 : (a.tmod b != 0) = true := by rw [bne_iff_ne]; exact k
      have t4 := t3 k
      clear t3
      obtain ⟨t6, t7⟩ := t4
      by_cases s1 : a.tmod b < 0 <;> by_cases s2 : b < 0
      · have e1 : decide (a.tmod b < 0) = true := decide_eq_true s1
        have e2 : decide (b < 0) = true := decide_eq_true s2
        have E := Lib.hid (fl_same (a := a) (b := b) (fun q => q.2 (⟨fun _ => s2, fun _ => s1⟩)))
        clear k tm
        go_enter Try.func11, Try.ntmps11
        go_wp2
        go_ret3
        exact ⟨ret_int3 0 ⟨E.out.1.symm, E.out.2.symm⟩, by (repeat (first | exact Below.refl _ _ | assumption | refine Below.drew ?_ | refine below_drewN ?_ _ | refine Below.setCell ?_ (by first | omega | (simp; done) | (simp; omega)) _ | refine Below.alloc ?_ (by first | omega | (simp; done) | (simp; omega)) _))⟩
      · have e1 : decide (a.tmod b < 0) = true := decide_eq_true s1
        have e2 : decide (b < 0) = false := decide_eq_false s2
        have E := Lib.hid (fl_adj (a := a) (b := b) ⟨k, fun q => s2 (q.1 s1)⟩)
        obtain ⟨t8, t9⟩ := tm.1 (by omega)
        clear k tm
        go_enter Try.func11, Try.ntmps11
        go_wp2
        go_ret3
        exact ⟨ret_int3 0 ⟨E.out.1.symm, E.out.2.symm⟩, by (repeat (first | exact Below.refl _ _ | assumption | refine Below.drew ?_ | refine below_drewN ?_ _ | refine Below.setCell ?_ (by first | omega | (simp; done) | (simp; omega)) _ | refine Below.alloc ?_ (by first | omega | (simp; done) | (simp; omega)) _))⟩
      · have e1 : decide (a.tmod b < 0) = false := decide_eq_false s1
        have e2 : decide (b < 0) = true := decide_eq_true s2
        have E := Lib.hid (fl_adj (a := a) (b := b) ⟨k, fun q => s1 (q.2 s2)⟩)
        obtain ⟨t8, t9⟩ := tm.2 (by omega)
        clear k tm
        go_enter Try.func11, Try.ntmps11
        go_wp2
        go_ret3
        exact ⟨ret_int3 0 ⟨E.out.1.symm, E.out.2.symm⟩, by (repeat (first | exact Below.refl _ _ | assumption | refine Below.drew ?_ | refine below_drewN ?_ _ | refine Below.setCell ?_ (by first | omega | (simp; done) | (simp; omega)) _ | refine Below.alloc ?_ (by first | omega | (simp; done) | (simp; omega)) _))⟩
      · have e1 : decide (a.tmod b < 0) = false := decide_eq_false s1
        have e2 : decide (b < 0) = false := decide_eq_false s2
        have E := Lib.hid (fl_same (a := a) (b := b) (fun q => q.2 (⟨fun c => absurd c s1, fun c => absurd c s2⟩)))
        clear k tm
        go_enter Try.func11, Try.ntmps11
        go_wp2
        go_ret3
        exact ⟨ret_int3 0 ⟨E.out.1.symm, E.out.2.symm⟩, by (repeat (first | exact Below.refl _ _ | assumption | refine Below.drew ?_ | refine below_drewN ?_ _ | refine Below.setCell ?_ (by first | omega | (simp; done) | (simp; omega)) _ | refine Below.alloc ?_ (by first | omega | (simp; done) | (simp; omega)) _))⟩
  · by_cases k : a.tmod b = 0
    · have k1 : (a.tmod b != 0) = false := by rw [k]; rfl
      have E := Lib.hid (fl_same (a := a) (b := b) (fun q => q.1 k))
      clear k tm t3
      go_enter Try.func11, Try.ntmps11
      go_wp2
      go_ret3
      exact ⟨ret_int3 0 ⟨E.out.1.symm, E.out.2.symm⟩, by (repeat (first | exact Below.refl _ _ | assumption | refine Below.drew ?_ | refine below_drewN ?_ _ | refine Below.setCell ?_ (by first | omega | (simp; done) | (simp; omega)) _ | refine Below.alloc ?_ (by first | omega | (simp; done) | (simp; omega)) _))⟩
    · have k1 : (a.tmod b != 0) = true := by rw [bne_iff_ne]; exact k
      have t4 := t3 k
      clear t3
      obtain ⟨t6, t7⟩ := t4
      by_cases s1 : a.tmod b < 0 <;> by_cases s2 : b < 0
      · have e1 : decide (a.tmod b < 0) = true := decide_eq_true s1
        have e2 : decide (b < 0) = true := decide_eq_true s2
        have E := Lib.hid (fl_same (a := a) (b := b) (fun q => q.2 (⟨fun _ => s2, fun _ => s1⟩)))
        clear k tm
        go_enter Try.func11, Try.ntmps11
        go_wp2
        go_ret3
        exact ⟨ret_int3 0 ⟨E.out.1.symm, E.out.2.symm⟩, by (repeat (first | exact Below.refl _ _ | assumption | refine Below.drew ?_ | refine below_drewN ?_ _ | refine Below.setCell ?_ (by first | omega | (simp; done) | (simp; omega)) _ | refine Below.alloc ?_ (by first | omega | (simp; done) | (simp; omega)) _))⟩
      · have e1 : decide (a.tmod b < 0) = true := decide_eq_true s1
        have e2 : decide (b < 0) = false := decide_eq_false s2
        have E := Lib.hid (fl_adj (a := a) (b := b) ⟨k, fun q => s2 (q.1 s1)⟩)
        obtain ⟨t8, t9⟩ := tm.1 (by omega)
        clear k tm
        go_enter Try.func11, Try.ntmps11
        go_wp2
        go_ret3
        exact ⟨ret_int3 0 ⟨E.out.1.symm, E.out.2.symm⟩, by (repeat (first | exact Below.refl _ _ | assumption | refine Below.drew ?_ | refine below_drewN ?_ _ | refine Below.setCell ?_ (by first | omega | (simp; done) | (simp; omega)) _ | refine Below.alloc ?_ (by first | omega | (simp; done) | (simp; omega)) _))⟩
      · have e1 : decide (a.tmod b < 0) = false := decide_eq_false s1
        have e2 : decide (b < 0) = true := decide_eq_true s2
        have E := Lib.hid (fl_adj (a := a) (b := b) ⟨k, fun q => s1 (q.2 s2)⟩)
        obtain ⟨t8, t9⟩ := tm.2 (by omega)
        clear k tm
        go_enter Try.func11, Try.ntmps11
        go_wp2
        go_ret3
        exact ⟨ret_int3 0 ⟨E.out.1.symm, E.out.2.symm⟩, by (repeat (first | exact Below.refl _ _ | assumption | refine Below.drew ?_ | refine below_drewN ?_ _ | refine Below.setCell ?_ (by first | omega | (simp; done) | (simp; omega)) _ | refine Below.alloc ?_ (by first | omega | (simp; done) | (simp; omega)) _))⟩
      · have e1 : decide (a.tmod b < 0) = false := decide_eq_false s1
        have e2 : decide (b < 0) = false := decide_eq_false s2
        have E := Lib.hid (fl_same (a := a) (b := b) (fun q => q.2 (⟨fun c => absurd c s1, fun c => absurd c s2⟩)))
        clear k tm
        go_enter Try.func11, Try.ntmps11
        go_wp2
        go_ret3
        exact ⟨ret_int3 0 ⟨E.out.1.symm, E.out.2.symm⟩, by (repeat (first | exact Below.refl _ _ | assumption | refine Below.drew ?_ | refine below_drewN ?_ _ | refine Below.setCell ?_ (by first | omega | (simp; done) | (simp; omega)) _ | refine Below.alloc ?_ (by first | omega | (simp; done) | (simp; omega)) _))⟩
set_option maxHeartbeats 1000000 in
theorem rceil_ok (a b : Int) (w : World) (h : Dvb a b) (ia : In64 a) (ib : In64 b) :
    Calls Try.prog 13 #[.int .i64 a, .int .i64 b] w fun e w' => e = .returned (.tuple #[.int .i64 (clQ a b), .int .i64 0]) ∧ Below w.heap.size w w' := by
  have td := td_bd a b h.1 ia.1 ia.2 h.2
  have tm := tm_bd a b h.1
  obtain ⟨t1, t2, t3⟩ := td
  obtain ⟨h0, h9⟩ := h
  obtain ⟨i1, i2⟩ := ia
  obtain ⟨i3, i4⟩ := ib
  have d0 : (b == 0) = false := by rw [beq_eq_false_iff_ne]; exact h0
  have dd : ((a == -9223372036854775808) = true ∧ (b == -1) = false) ∨ (a == -9223372036854775808) = false := by
    by_cases k : a = -9223372036854775808
    · exact .inl ⟨beq_iff_eq.2 k, by rw [beq_eq_false_iff_ne]; exact fun k2 => h9 ⟨k, k2⟩⟩
    · exact .inr (by rw [beq_eq_false_iff_ne]; exact k)
  clear h9
  rcases dd with ⟨d1, d2⟩ | d1
  · by_cases k : a.tmod b = 0
    · have k1 : (a.tmod b != 0) = false := by rw [k]; rfl
      have E := Lib.hid (cl_no (a := a) (b := b) h0 (.inl k))
      clear k tm t3
      go_enter Try.func13, Try.ntmps13
      go_wp2
      go_ret2
      exact ⟨ret_intE 0 E.out.symm, by (repeat (first | exact Below.refl _ _ | assumption | refine Below.drew ?_ | refine below_drewN ?_ _ | refine Below.setCell ?_ (by first | omega | (simp; done) | (simp; omega)) _ | refine Below.alloc ?_ (by first | omega | (simp; done) | (simp; omega)) _))⟩
    · have k1 : (a.tmod b != 0) = true := by rw [bne_iff_ne]; exact k
      have t4 := t3 k
      clear t3
      obtain ⟨t6, t7⟩ := t4
      by_cases s1 : a.tmod b < 0 <;> by_cases s2 : b < 0
      · have e1 : decide (a.tmod b < 0) = true := decide_eq_true s1
        have e2 : decide (b < 0) = true := decide_eq_true s2
        have E := Lib.hid (cl_up (a := a) (b := b) k (⟨fun _ => s2, fun _ => s1⟩))
        clear k tm
        go_enter Try.func13, Try.ntmps13
        go_wp2
        go_ret2
        exact ⟨ret_intE 0 E.out.symm, by (repeat (first | exact Below.refl _ _ | assumption | refine Below.drew ?_ | refine below_drewN ?_ _ | refine Below.setCell ?_ (by first | omega | (simp; done) | (simp; omega)) _ | refine Below.alloc ?_ (by first | omega | (simp; done) | (simp; omega)) _))⟩
      · have e1 : decide (a.tmod b < 0) = true := decide_eq_true s1
        have e2 : decide (b < 0) = false := decide_eq_false s2
        have E := Lib.hid (cl_no (a := a) (b := b) h0 (.inr fun q => s2 (q.1 s1)))
        clear k tm
        go_enter Try.func13, Try.ntmps13
        go_wp2
        go_ret2
        exact ⟨ret_intE 0 E.out.symm, by (repeat (first | exact Below.refl _ _ | assumption | refine Below.drew ?_ | refine below_drewN ?_ _ | refine Below.setCell ?_ (by first | omega | (simp; done) | (simp; omega)) _ | refine Below.alloc ?_ (by first | omega | (simp; done) | (simp; omega)) _))⟩
      · have e1 : decide (a.tmod b < 0) = false := decide_eq_false s1
        have e2 : decide (b < 0) = true := decide_eq_true s2
        have E := Lib.hid (cl_no (a := a) (b := b) h0 (.inr fun q => s1 (q.2 s2)))
        clear k tm
        go_enter Try.func13, Try.ntmps13
        go_wp2
        go_ret2
        exact ⟨ret_intE 0 E.out.symm, by (repeat (first | exact Below.refl _ _ | assumption | refine Below.drew ?_ | refine below_drewN ?_ _ | refine Below.setCell ?_ (by first | omega | (simp; done) | (simp; omega)) _ | refine Below.alloc ?_ (by first | omega | (simp; done) | (simp; omega)) _))⟩
      · have e1 : decide (a.tmod b < 0) = false := decide_eq_false s1
        have e2 : decide (b < 0) = false := decide_eq_false s2
        have E := Lib.hid (cl_up (a := a) (b := b) k (⟨fun c => absurd c s1, fun c => absurd c s2⟩))
        clear k tm
        go_enter Try.func13, Try.ntmps13
        go_wp2
        go_ret2
        exact ⟨ret_intE 0 E.out.symm, by (repeat (first | exact Below.refl _ _ | assumption | refine Below.drew ?_ | refine below_drewN ?_ _ | refine Below.setCell ?_ (by first | omega | (simp; done) | (simp; omega)) _ | refine Below.alloc ?_ (by first | omega | (simp; done) | (simp; omega)) _))⟩
  · by_cases k : a.tmod b = 0
    · have k1 : (a.tmod b != 0) = false := by rw [k]; rfl
      have E := Lib.hid (cl_no (a := a) (b := b) h0 (.inl k))
      clear k tm t3
      go_enter Try.func13, Try.ntmps13
      go_wp2
      go_ret2
      exact ⟨ret_intE 0 E.out.symm, by (repeat (first | exact Below.refl _ _ | assumption | refine Below.drew ?_ | refine below_drewN ?_ _ | refine Below.setCell ?_ (by first | omega | (simp; done) | (simp; omega)) _ | refine Below.alloc ?_ (by first | omega | (simp; done) | (simp; omega)) _))⟩
    · have k1 : (a.tmod b != 0) = true := by rw [bne_iff_ne]; exact k
      have t4 := t3 k
      clear t3
      obtain ⟨t6, t7⟩ := t4
      by_cases s1 : a.tmod b < 0 <;> by_cases s2 : b < 0
      · have e1 : decide (a.tmod b < 0) = true := decide_eq_true s1
        have e2 : decide (b < 0) = true := decide_eq_true s2
        have E := Lib.hid (cl_up (a := a) (b := b) k (⟨fun _ => s2, fun _ => s1⟩))
        clear k tm
        go_enter Try.func13, Try.ntmps13
        go_wp2
        go_ret2
        exact ⟨ret_intE 0 E.out.symm, by (repeat (first | exact Below.refl _ _ | assumption | refine Below.drew ?_ | refine below_drewN ?_ _ | refine Below.setCell ?_ (by first | omega | (simp; done) | (simp; omega)) _ | refine Below.alloc ?_ (by first | omega | (simp; done) | (simp; omega)) _))⟩
      · have e1 : decide (a.tmod b < 0) = true := decide_eq_true s1
        have e2 : decide (b < 0) = false := decide_eq_false s2
        have E := Lib.hid (cl_no (a := a) (b := b) h0 (.inr fun q => s2 (q.1 s1)))
        clear k tm
        go_enter Try.func13, Try.ntmps13
        go_wp2
        go_ret2
        exact ⟨ret_intE 0 E.out.symm, by (repeat (first | exact Below.refl _ _ | assumption | refine Below.drew ?_ | refine below_drewN ?_ _ | refine Below.setCell ?_ (by first | omega | (simp; done) | (simp; omega)) _ | refine Below.alloc ?_ (by first | omega | (simp; done) | (simp; omega)) _))⟩
      · have e1 : decide (a.tmod b < 0) = false := decide_eq_false s1
        have e2 : decide (b < 0) = true := decide_eq_true s2
        have E := Lib.hid (cl_no (a := a) (b := b) h0 (.inr fun q => s1 (q.2 s2)))
        clear k tm
        go_enter Try.func13, Try.ntmps13
        go_wp2
        go_ret2
        exact ⟨ret_intE 0 E.out.symm, by (repeat (first | exact Below.refl _ _ | assumption | refine Below.drew ?_ | refine below_drewN ?_ _ | refine Below.setCell ?_ (by first | omega | (simp; done) | (simp; omega)) _ | refine Below.alloc ?_ (by first | omega | (simp; done) | (simp; omega)) _))⟩
      · have e1 : decide (a.tmod b < 0) = false := decide_eq_false s1
        have e2 : decide (b < 0) = false := decide_eq_false s2
        have E := Lib.hid (cl_up (a := a) (b := b) k (⟨fun c => absurd c s1, fun c => absurd c s2⟩))
        clear k tm
        go_enter Try.func13, Try.ntmps13
        go_wp2
        go_ret2
        exact ⟨ret_intE 0 E.out.symm, by (repeat (first | exact Below.refl _ _ | assumption | refine Below.drew ?_ | refine below_drewN ?_ _ | refine Below.setCell ?_ (by first | omega | (simp; done) | (simp; omega)) _ | refine Below.alloc ?_ (by first | omega | (simp; done) | (simp; omega)) _))⟩
theorem rfloor_zero (a : Int) (w : World) :
    Calls Try.prog 11 #[.int .i64 a, .int .i64 0] w fun e w' => e = .returned (.tuple #[.int .i64 0, .int .i64 0, .int .i64 3]) ∧ Below w.heap.size w w' := by
  go_enter Try.func11, Try.ntmps11
  go_wp2
  go_ret3
  exact ⟨rfl, by (repeat (first | exact Below.refl _ _ | assumption | refine Below.drew ?_ | refine below_drewN ?_ _ | refine Below.setCell ?_ (by first | omega | (simp; done) | (simp; omega)) _ | refine Below.alloc ?_ (by first | omega | (simp; done) | (simp; omega)) _))⟩
theorem rfloor_wide (w : World) :
    Calls Try.prog 11 #[.int .i64 (-9223372036854775808), .int .i64 (-1)] w fun e w' => e = .returned (.tuple #[.int .i64 0, .int .i64 0, .int .i64 4]) ∧ Below w.heap.size w w' := by
  go_enter Try.func11, Try.ntmps11
  go_wp2
  go_ret3
  exact ⟨rfl, by (repeat (first | exact Below.refl _ _ | assumption | refine Below.drew ?_ | refine below_drewN ?_ _ | refine Below.setCell ?_ (by first | omega | (simp; done) | (simp; omega)) _ | refine Below.alloc ?_ (by first | omega | (simp; done) | (simp; omega)) _))⟩
theorem rceil_zero (a : Int) (w : World) :
    Calls Try.prog 13 #[.int .i64 a, .int .i64 0] w fun e w' => e = .returned (.tuple #[.int .i64 0, .int .i64 3]) ∧ Below w.heap.size w w' := by
  go_enter Try.func13, Try.ntmps13
  go_wp2
  go_ret2
  exact ⟨rfl, by (repeat (first | exact Below.refl _ _ | assumption | refine Below.drew ?_ | refine below_drewN ?_ _ | refine Below.setCell ?_ (by first | omega | (simp; done) | (simp; omega)) _ | refine Below.alloc ?_ (by first | omega | (simp; done) | (simp; omega)) _))⟩
theorem rceil_wide (w : World) :
    Calls Try.prog 13 #[.int .i64 (-9223372036854775808), .int .i64 (-1)] w fun e w' => e = .returned (.tuple #[.int .i64 0, .int .i64 4]) ∧ Below w.heap.size w w' := by
  go_enter Try.func13, Try.ntmps13
  go_wp2
  go_ret2
  exact ⟨rfl, by (repeat (first | exact Below.refl _ _ | assumption | refine Below.drew ?_ | refine below_drewN ?_ _ | refine Below.setCell ?_ (by first | omega | (simp; done) | (simp; omega)) _ | refine Below.alloc ?_ (by first | omega | (simp; done) | (simp; omega)) _))⟩
theorem rfloor_any (a b : Int) (w : World) (ia : In64 a) (ib : In64 b) :
    Calls Try.prog 11 #[.int .i64 a, .int .i64 b] w fun e w' => e = .returned (.tuple #[.int .i64 (fQ a b), .int .i64 (fR a b), .int .i64 (fE a b)]) ∧ Below w.heap.size w w' := by
  unfold fQ fR
  rcases fE_ways a b with ⟨h, e⟩ | ⟨rfl, e⟩ | ⟨rfl, rfl, e⟩
  · rw [e, if_pos rfl, if_pos rfl]; exact rfloor_ok a b w h ia ib
  · rw [e, if_neg (by decide), if_neg (by decide)]; exact rfloor_zero a w
  · rw [e, if_neg (by decide), if_neg (by decide)]; exact rfloor_wide w
theorem rceil_any (a b : Int) (w : World) (ia : In64 a) (ib : In64 b) :
    Calls Try.prog 13 #[.int .i64 a, .int .i64 b] w fun e w' => e = .returned (.tuple #[.int .i64 (cQ a b), .int .i64 (fE a b)]) ∧ Below w.heap.size w w' := by
  unfold cQ
  rcases fE_ways a b with ⟨h, e⟩ | ⟨rfl, e⟩ | ⟨rfl, rfl, e⟩
  · rw [e, if_pos rfl]; exact rceil_ok a b w h ia ib
  · rw [e, if_neg (by decide)]; exact rceil_zero a w
  · rw [e, if_neg (by decide)]; exact rceil_wide w
end Go.Proofs.Ytjndajndllimhaa
