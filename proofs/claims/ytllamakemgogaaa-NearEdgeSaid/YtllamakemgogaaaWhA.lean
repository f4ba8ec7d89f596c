/-
  Contracts of package whole and of its reference: Floor, Ceil, Clamp.
-/
import Derived.Test.YtllamakemgogaaaBase
import Derived.Test.YtllamakemgogaaaWhPl
namespace Go.Proofs.Ytllamakemgogaaa
open Go.RowKit

theorem ret_int3 {a b c d : Int} (x : Int) (h : a = b ∧ c = d) : Ending.returned (.tuple #[.int .i64 a, .int .i64 c, .int .i64 x]) = .returned (.tuple #[.int .i64 b, .int .i64 d, .int .i64 x]) := by rw [h.1, h.2]
theorem ret_intE {a b : Int} (x : Int) (h : a = b) : Ending.returned (.tuple #[.int .i64 a, .int .i64 x]) = .returned (.tuple #[.int .i64 b, .int .i64 x]) := by rw [h]
/-- A pair that has a quotient. -/
def Dvb (a b : Int) : Prop := b ≠ 0 ∧ ¬ (a = -9223372036854775808 ∧ b = -1)
def In64 (a : Int) : Prop := -9223372036854775808 ≤ a ∧ a ≤ 9223372036854775807

set_option maxHeartbeats 400000 in
theorem divisible_ok (a b : Int) (w : World) (h : Dvb a b) :
    Calls Try.prog 72 #[.int .i64 a, .int .i64 b] w fun e w' => e = .returned (.int .i64 0) ∧ Below w.heap.size w w' := by
  obtain ⟨h0, h1⟩ := h
  have d0 : (b == 0) = false := by rw [beq_eq_false_iff_ne]; exact h0
  by_cases k : a = -9223372036854775808
  · have k2 : ¬ b = -1 := fun k2 => h1 ⟨k, k2⟩
    have d2 : (b == -1) = false := by rw [beq_eq_false_iff_ne]; exact k2
    subst k
    clear h0 h1 k2
    go_enter Try.func72, Try.ntmps72
    go_wp2
    go_ret
    exact ⟨rfl, Below.refl _ _⟩
  · have d1 : (a == -9223372036854775808) = false := by rw [beq_eq_false_iff_ne]; exact k
    clear h0 h1 k
    go_enter Try.func72, Try.ntmps72
    go_wp2
    go_ret
    exact ⟨rfl, Below.refl _ _⟩
theorem divisible_zero (a : Int) (w : World) :
    Calls Try.prog 72 #[.int .i64 a, .int .i64 0] w fun e w' => e = .returned (.int .i64 3) ∧ Below w.heap.size w w' := by
  go_enter Try.func72, Try.ntmps72
  go_wp2
  go_ret
  exact ⟨rfl, Below.refl _ _⟩
theorem divisible_wide (w : World) :
    Calls Try.prog 72 #[.int .i64 (-9223372036854775808), .int .i64 (-1)] w fun e w' => e = .returned (.int .i64 4) ∧ Below w.heap.size w w' := by
  go_enter Try.func72, Try.ntmps72
  go_wp2
  go_ret
  exact ⟨rfl, Below.refl _ _⟩

set_option maxHeartbeats 1000000 in
theorem floor2_ok (a b : Int) (w : World) (h : Dvb a b) (ia : In64 a) (ib : In64 b) :
    Calls Try.prog 59 #[.int .i64 a, .int .i64 b] w fun e w' => e = .returned (.tuple #[.int .i64 (flQ a b), .int .i64 (flR a b), .int .i64 0]) ∧ Below w.heap.size w w' := by
  have td := td_bd a b h.1 ia.1 ia.2 h.2
  have tm := tm_bd a b h.1
  obtain ⟨t1, t2, t3⟩ := td
  have H := Lib.hid h
  obtain ⟨i1, i2⟩ := ia
  obtain ⟨i3, i4⟩ := ib
  have h0 := h.1
  clear h
  by_cases k : a.tmod b = 0
  · have k1 : (a.tmod b != 0) = false := by rw [k]; rfl
    have E := Lib.hid (fl_same (a := a) (b := b) (fun q => q.1 k))
    clear k tm t3
    go_enter Try.func59, Try.ntmps59
    go_wp2_with fail
    (refine (divisible_ok a b _ H.out).mono ?_; rintro e w1 ⟨rfl, hb1⟩; have hB1 : Below w.heap.size w w1 := (by refine Below.trans ?_ (hb1.mono (by first | omega | (simp; done) | (simp; omega))); (repeat (first | exact Below.refl _ _ | assumption | refine Below.drew ?_ | refine below_drewN ?_ _ | refine Below.setCell ?_ (by first | omega | (simp; done) | (simp; omega)) _ | refine Below.alloc ?_ (by first | omega | (simp; done) | (simp; omega)) _))); have hsz1 : w.heap.size ≤ w1.heap.size := hB1.size)
    go_wp2_with fail
    go_quiet (fail)
    go_wp2
    go_ret3
    exact ⟨ret_int3 0 ⟨E.out.1.symm, E.out.2.symm⟩, by (repeat (first | exact Below.refl _ _ | assumption | refine Below.drew ?_ | refine below_drewN ?_ _ | refine Below.setCell ?_ (by first | omega | (simp; done) | (simp; omega)) _ | refine Below.alloc ?_ (by first | omega | (simp; done) | (simp; omega)) _))⟩
  · have k1 : (a.tmod b != 0) = true := by rw [bne_iff_ne]; exact k
    have t4 := t3 k
    clear t3
    by_cases s1 : a.tmod b < 0 <;> by_cases s2 : b < 0
    · have e1 : decide (a.tmod b < 0) = true := decide_eq_true s1
      have e2 : decide (b < 0) = true := decide_eq_true s2
      have E := Lib.hid (fl_same (a := a) (b := b) (fun q => q.2 ⟨fun _ => s2, fun _ => s1⟩))
      clear k tm t4
      go_enter Try.func59, Try.ntmps59
      go_wp2_with fail
      (refine (divisible_ok a b _ H.out).mono ?_; rintro e w1 ⟨rfl, hb1⟩; have hB1 : Below w.heap.size w w1 := (by refine Below.trans ?_ (hb1.mono (by first | omega | (simp; done) | (simp; omega))); (repeat (first | exact Below.refl _ _ | assumption | refine Below.drew ?_ | refine below_drewN ?_ _ | refine Below.setCell ?_ (by first | omega | (simp; done) | (simp; omega)) _ | refine Below.alloc ?_ (by first | omega | (simp; done) | (simp; omega)) _))); have hsz1 : w.heap.size ≤ w1.heap.size := hB1.size)
      go_wp2_with fail
      go_quiet (fail)
      go_wp2
      go_ret3
      exact ⟨ret_int3 0 ⟨E.out.1.symm, E.out.2.symm⟩, by (repeat (first | exact Below.refl _ _ | assumption | refine Below.drew ?_ | refine below_drewN ?_ _ | refine Below.setCell ?_ (by first | omega | (simp; done) | (simp; omega)) _ | refine Below.alloc ?_ (by first | omega | (simp; done) | (simp; omega)) _))⟩
    · have e1 : decide (a.tmod b < 0) = true := decide_eq_true s1
      have e2 : decide (b < 0) = false := decide_eq_false s2
      have E := Lib.hid (fl_adj (a := a) (b := b) ⟨k, fun q => s2 (q.1 s1)⟩)
      have t5 := tm.1 (by omega)
      obtain ⟨t6, t7⟩ := t4
      obtain ⟨t8, t9⟩ := t5
      clear k tm
      go_enter Try.func59, Try.ntmps59
      go_wp2_with fail
      (refine (divisible_ok a b _ H.out).mono ?_; rintro e w1 ⟨rfl, hb1⟩; have hB1 : Below w.heap.size w w1 := (by refine Below.trans ?_ (hb1.mono (by first | omega | (simp; done) | (simp; omega))); (repeat (first | exact Below.refl _ _ | assumption | refine Below.drew ?_ | refine below_drewN ?_ _ | refine Below.setCell ?_ (by first | omega | (simp; done) | (simp; omega)) _ | refine Below.alloc ?_ (by first | omega | (simp; done) | (simp; omega)) _))); have hsz1 : w.heap.size ≤ w1.heap.size := hB1.size)
      go_wp2_with fail
      go_quiet (fail)
      go_wp2
      go_ret3
      exact ⟨ret_int3 0 ⟨E.out.1.symm, E.out.2.symm⟩, by (repeat (first | exact Below.refl _ _ | assumption | refine Below.drew ?_ | refine below_drewN ?_ _ | refine Below.setCell ?_ (by first | omega | (simp; done) | (simp; omega)) _ | refine Below.alloc ?_ (by first | omega | (simp; done) | (simp; omega)) _))⟩
    · have e1 : decide (a.tmod b < 0) = false := decide_eq_false s1
      have e2 : decide (b < 0) = true := decide_eq_true s2
      have E := Lib.hid (fl_adj (a := a) (b := b) ⟨k, fun q => s1 (q.2 s2)⟩)
      have t5 := tm.2 (by omega)
      obtain ⟨t6, t7⟩ := t4
      obtain ⟨t8, t9⟩ := t5
      clear k tm
      go_enter Try.func59, Try.ntmps59
      go_wp2_with fail
      (refine (divisible_ok a b _ H.out).mono ?_; rintro e w1 ⟨rfl, hb1⟩; have hB1 : Below w.heap.size w w1 := (by refine Below.trans ?_ (hb1.mono (by first | omega | (simp; done) | (simp; omega))); (repeat (first | exact Below.refl _ _ | assumption | refine Below.drew ?_ | refine below_drewN ?_ _ | refine Below.setCell ?_ (by first | omega | (simp; done) | (simp; omega)) _ | refine Below.alloc ?_ (by first | omega | (simp; done) | (simp; omega)) _))); have hsz1 : w.heap.size ≤ w1.heap.size := hB1.size)
      go_wp2_with fail
      go_quiet (fail)
      go_wp2
      go_ret3
      exact ⟨ret_int3 0 ⟨E.out.1.symm, E.out.2.symm⟩, by (repeat (first | exact Below.refl _ _ | assumption | refine Below.drew ?_ | refine below_drewN ?_ _ | refine Below.setCell ?_ (by first | omega | (simp; done) | (simp; omega)) _ | refine Below.alloc ?_ (by first | omega | (simp; done) | (simp; omega)) _))⟩
    · have e1 : decide (a.tmod b < 0) = false := decide_eq_false s1
      have e2 : decide (b < 0) = false := decide_eq_false s2
      have E := Lib.hid (fl_same (a := a) (b := b) (fun q => q.2 ⟨fun c => absurd c s1, fun c => absurd c s2⟩))
      clear k tm t4
      go_enter Try.func59, Try.ntmps59
      go_wp2_with fail
      (refine (divisible_ok a b _ H.out).mono ?_; rintro e w1 ⟨rfl, hb1⟩; have hB1 : Below w.heap.size w w1 := (by refine Below.trans ?_ (hb1.mono (by first | omega | (simp; done) | (simp; omega))); (repeat (first | exact Below.refl _ _ | assumption | refine Below.drew ?_ | refine below_drewN ?_ _ | refine Below.setCell ?_ (by first | omega | (simp; done) | (simp; omega)) _ | refine Below.alloc ?_ (by first | omega | (simp; done) | (simp; omega)) _))); have hsz1 : w.heap.size ≤ w1.heap.size := hB1.size)
      go_wp2_with fail
      go_quiet (fail)
      go_wp2
      go_ret3
      exact ⟨ret_int3 0 ⟨E.out.1.symm, E.out.2.symm⟩, by (repeat (first | exact Below.refl _ _ | assumption | refine Below.drew ?_ | refine below_drewN ?_ _ | refine Below.setCell ?_ (by first | omega | (simp; done) | (simp; omega)) _ | refine Below.alloc ?_ (by first | omega | (simp; done) | (simp; omega)) _))⟩
set_option maxHeartbeats 400000 in
theorem floor2_zero (a : Int) (w : World) :
    Calls Try.prog 59 #[.int .i64 a, .int .i64 0] w fun e w' => e = .returned (.tuple #[.int .i64 0, .int .i64 0, .int .i64 3]) ∧ Below w.heap.size w w' := by
  go_enter Try.func59, Try.ntmps59
  go_wp2_with fail
  (refine (divisible_zero a _).mono ?_; rintro e w1 ⟨rfl, hb1⟩; have hB1 : Below w.heap.size w w1 := (by refine Below.trans ?_ (hb1.mono (by first | omega | (simp; done) | (simp; omega))); (repeat (first | exact Below.refl _ _ | assumption | refine Below.drew ?_ | refine below_drewN ?_ _ | refine Below.setCell ?_ (by first | omega | (simp; done) | (simp; omega)) _ | refine Below.alloc ?_ (by first | omega | (simp; done) | (simp; omega)) _))); have hsz1 : w.heap.size ≤ w1.heap.size := hB1.size)
  go_wp2
  go_ret3
  exact ⟨rfl, by (repeat (first | exact Below.refl _ _ | assumption | refine Below.drew ?_ | refine below_drewN ?_ _ | refine Below.setCell ?_ (by first | omega | (simp; done) | (simp; omega)) _ | refine Below.alloc ?_ (by first | omega | (simp; done) | (simp; omega)) _))⟩
set_option maxHeartbeats 400000 in
theorem floor2_wide (w : World) :
    Calls Try.prog 59 #[.int .i64 (-9223372036854775808), .int .i64 (-1)] w fun e w' => e = .returned (.tuple #[.int .i64 0, .int .i64 0, .int .i64 4]) ∧ Below w.heap.size w w' := by
  go_enter Try.func59, Try.ntmps59
  go_wp2_with fail
  (refine (divisible_wide _).mono ?_; rintro e w1 ⟨rfl, hb1⟩; have hB1 : Below w.heap.size w w1 := (by refine Below.trans ?_ (hb1.mono (by first | omega | (simp; done) | (simp; omega))); (repeat (first | exact Below.refl _ _ | assumption | refine Below.drew ?_ | refine below_drewN ?_ _ | refine Below.setCell ?_ (by first | omega | (simp; done) | (simp; omega)) _ | refine Below.alloc ?_ (by first | omega | (simp; done) | (simp; omega)) _))); have hsz1 : w.heap.size ≤ w1.heap.size := hB1.size)
  go_wp2
  go_ret3
  exact ⟨rfl, by (repeat (first | exact Below.refl _ _ | assumption | refine Below.drew ?_ | refine below_drewN ?_ _ | refine Below.setCell ?_ (by first | omega | (simp; done) | (simp; omega)) _ | refine Below.alloc ?_ (by first | omega | (simp; done) | (simp; omega)) _))⟩

/-- What Floor answers: quotient, what is left, error. -/
def fE (a b : Int) : Int := if b = 0 then 3 else if a = -9223372036854775808 ∧ b = -1 then 4 else 0
def fQ (a b : Int) : Int := if fE a b = 0 then flQ a b else 0
def fR (a b : Int) : Int := if fE a b = 0 then flR a b else 0
def cQ (a b : Int) : Int := if fE a b = 0 then clQ a b else 0
theorem fE_ok {a b : Int} (h : Dvb a b) : fE a b = 0 := by unfold fE; rw [if_neg h.1, if_neg h.2]
theorem fE_ways (a b : Int) : (Dvb a b ∧ fE a b = 0) ∨ (b = 0 ∧ fE a b = 3) ∨ (a = -9223372036854775808 ∧ b = -1 ∧ fE a b = 4) := by
  unfold fE Dvb
  by_cases h : b = 0
  · rw [if_pos h]; exact .inr (.inl ⟨h, rfl⟩)
  · rw [if_neg h]
    by_cases k : a = -9223372036854775808 ∧ b = -1
    · rw [if_pos k]; exact .inr (.inr ⟨k.1, k.2, rfl⟩)
    · rw [if_neg k]; exact .inl ⟨⟨h, k⟩, rfl⟩
theorem floor2_any (a b : Int) (w : World) (ia : In64 a) (ib : In64 b) :
    Calls Try.prog 59 #[.int .i64 a, .int .i64 b] w fun e w' => e = .returned (.tuple #[.int .i64 (fQ a b), .int .i64 (fR a b), .int .i64 (fE a b)]) ∧ Below w.heap.size w w' := by
  unfold fQ fR
  rcases fE_ways a b with ⟨h, e⟩ | ⟨rfl, e⟩ | ⟨rfl, rfl, e⟩
  · rw [e, if_pos rfl, if_pos rfl]; exact floor2_ok a b w h ia ib
  · rw [e, if_neg (by decide), if_neg (by decide)]; exact floor2_zero a w
  · rw [e, if_neg (by decide), if_neg (by decide)]; exact floor2_wide w

def cP (n lo hi : Int) : Int := if hi < lo then 0 else if n < lo then lo else if hi < n then hi else n
def clX (lo hi : Int) : Int := if hi < lo then 1 else 0
end Go.Proofs.Ytllamakemgogaaa
