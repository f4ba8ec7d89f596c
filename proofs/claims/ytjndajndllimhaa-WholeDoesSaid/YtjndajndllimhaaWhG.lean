/-
  The laws WholeClamp, WholeSqrt, WholeCeil: their walks.
-/
import Derived.Test.YtjndajndllimhaaWhF
namespace Go.Proofs.Ytjndajndllimhaa
open Go.RowKit

theorem clamp_at (n lo hi p : Int) (h : lo ≤ hi) (hp : Hid (cP n lo hi = p)) (w : World) :
    Calls Try.prog 18 #[.int .i64 n, .int .i64 lo, .int .i64 hi] w fun e w' => e = .returned (.tuple #[.int .i64 p, .int .i64 0]) ∧ Below w.heap.size w w' := by
  have := clamp_ok n lo hi w (by omega)
  rwa [hp.out] at this
theorem cP_lo {n lo hi : Int} (h : ¬ hi < lo) (k : n < lo) : cP n lo hi = lo := by unfold cP; rw [if_neg h, if_pos k]
theorem cP_hi {n lo hi : Int} (h : ¬ hi < lo) (k : hi < n) : cP n lo hi = hi := by unfold cP; rw [if_neg h, if_neg (by omega), if_pos k]
theorem cP_mid {n lo hi : Int} (h : ¬ hi < lo) (k : ¬ n < lo) (k2 : ¬ hi < n) : cP n lo hi = n := by unfold cP; rw [if_neg h, if_neg k, if_neg k2]

set_option maxRecDepth 100000 in
set_option maxHeartbeats 1000000 in
theorem law_clamp (n lo hi : Int) (w : World) :
    Calls Try.prog 8 #[.int .i64 n, .int .i64 lo, .int .i64 hi] w fun e w' => e = .returned (.bool true) ∧ Below w.heap.size w w' := by
  by_cases h : hi < lo
  · go_enter Try.func8, Try.ntmps8
    go_wp2_with fail
    (refine (clamp_arg n lo hi _ h).mono ?_; rintro e w1 ⟨rfl, hb1⟩; have hB1 : Below w.heap.size w w1 := (by refine Below.trans ?_ (hb1.mono (by first | omega | (simp; done) | (simp; omega))); (repeat (first | exact Below.refl _ _ | assumption | refine Below.drew ?_ | refine below_drewN ?_ _ | refine Below.setCell ?_ (by first | omega | (simp; done) | (simp; omega)) _ | refine Below.alloc ?_ (by first | omega | (simp; done) | (simp; omega)) _))); have hsz1 : w.heap.size ≤ w1.heap.size := hB1.size)
    go_wp2_with fail
    (refine (parted_any _).mono ?_; rintro e w2 ⟨rfl, hb2⟩; have hB2 : Below w.heap.size w w2 := (by refine Below.trans ?_ (hb2.mono (by first | omega | (simp; done) | (simp; omega))); (repeat (first | exact Below.refl _ _ | assumption | refine Below.drew ?_ | refine below_drewN ?_ _ | refine Below.setCell ?_ (by first | omega | (simp; done) | (simp; omega)) _ | refine Below.alloc ?_ (by first | omega | (simp; done) | (simp; omega)) _))); have hsz2 : w.heap.size ≤ w2.heap.size := hB2.size)
    go_wp2
    go_ret
    exact ⟨rfl, hB2⟩
  · have H : Hid (lo ≤ hi) := Lib.hid (by omega)
    by_cases k : n < lo
    · have P := Lib.hid (cP_lo h k)
      have Q := Lib.hid (cP_mid (n := lo) h (by omega) h)
      have i1 : lo ≤ hi := by omega
      have i2 : n ≤ hi := by omega
      clear h
      go_enter Try.func8, Try.ntmps8
      go_wp2_with fail
      (refine (clamp_at n lo hi lo H.out P _).mono ?_; rintro e w1 ⟨rfl, hb1⟩; have hB1 : Below w.heap.size w w1 := (by refine Below.trans ?_ (hb1.mono (by first | omega | (simp; done) | (simp; omega))); (repeat (first | exact Below.refl _ _ | assumption | refine Below.drew ?_ | refine below_drewN ?_ _ | refine Below.setCell ?_ (by first | omega | (simp; done) | (simp; omega)) _ | refine Below.alloc ?_ (by first | omega | (simp; done) | (simp; omega)) _))); have hsz1 : w.heap.size ≤ w1.heap.size := hB1.size)
      go_wp2_with fail
      (refine (clamp_at lo lo hi lo H.out Q _).mono ?_; rintro e w2 ⟨rfl, hb2⟩; have hB2 : Below w.heap.size w w2 := (by refine Below.trans ?_ (hb2.mono (by first | omega | (simp; done) | (simp; omega))); (repeat (first | exact Below.refl _ _ | assumption | refine Below.drew ?_ | refine below_drewN ?_ _ | refine Below.setCell ?_ (by first | omega | (simp; done) | (simp; omega)) _ | refine Below.alloc ?_ (by first | omega | (simp; done) | (simp; omega)) _))); have hsz2 : w.heap.size ≤ w2.heap.size := hB2.size)
      go_wp2_with fail
      (refine (parted_any _).mono ?_; rintro e w3 ⟨rfl, hb3⟩; have hB3 : Below w.heap.size w w3 := (by refine Below.trans ?_ (hb3.mono (by first | omega | (simp; done) | (simp; omega))); (repeat (first | exact Below.refl _ _ | assumption | refine Below.drew ?_ | refine below_drewN ?_ _ | refine Below.setCell ?_ (by first | omega | (simp; done) | (simp; omega)) _ | refine Below.alloc ?_ (by first | omega | (simp; done) | (simp; omega)) _))); have hsz3 : w.heap.size ≤ w3.heap.size := hB3.size)
      go_wp2
      go_ret
      exact ⟨rfl, hB3⟩
    · by_cases k2 : hi < n
      · have P := Lib.hid (cP_hi h k2)
        have Q := Lib.hid (cP_mid (n := hi) h h (by omega))
        have i1 : lo ≤ hi := by omega
        have i2 : lo ≤ n := by omega
        clear h
        go_enter Try.func8, Try.ntmps8
        go_wp2_with fail
        (refine (clamp_at n lo hi hi H.out P _).mono ?_; rintro e w1 ⟨rfl, hb1⟩; have hB1 : Below w.heap.size w w1 := (by refine Below.trans ?_ (hb1.mono (by first | omega | (simp; done) | (simp; omega))); (repeat (first | exact Below.refl _ _ | assumption | refine Below.drew ?_ | refine below_drewN ?_ _ | refine Below.setCell ?_ (by first | omega | (simp; done) | (simp; omega)) _ | refine Below.alloc ?_ (by first | omega | (simp; done) | (simp; omega)) _))); have hsz1 : w.heap.size ≤ w1.heap.size := hB1.size)
        go_wp2_with fail
        (refine (clamp_at hi lo hi hi H.out Q _).mono ?_; rintro e w2 ⟨rfl, hb2⟩; have hB2 : Below w.heap.size w w2 := (by refine Below.trans ?_ (hb2.mono (by first | omega | (simp; done) | (simp; omega))); (repeat (first | exact Below.refl _ _ | assumption | refine Below.drew ?_ | refine below_drewN ?_ _ | refine Below.setCell ?_ (by first | omega | (simp; done) | (simp; omega)) _ | refine Below.alloc ?_ (by first | omega | (simp; done) | (simp; omega)) _))); have hsz2 : w.heap.size ≤ w2.heap.size := hB2.size)
        go_wp2_with fail
        (refine (parted_any _).mono ?_; rintro e w3 ⟨rfl, hb3⟩; have hB3 : Below w.heap.size w w3 := (by refine Below.trans ?_ (hb3.mono (by first | omega | (simp; done) | (simp; omega))); (repeat (first | exact Below.refl _ _ | assumption | refine Below.drew ?_ | refine below_drewN ?_ _ | refine Below.setCell ?_ (by first | omega | (simp; done) | (simp; omega)) _ | refine Below.alloc ?_ (by first | omega | (simp; done) | (simp; omega)) _))); have hsz3 : w.heap.size ≤ w3.heap.size := hB3.size)
        go_wp2
        go_ret
        exact ⟨rfl, hB3⟩
      · have P := Lib.hid (cP_mid (n := n) h k k2)
        clear h
        go_enter Try.func8, Try.ntmps8
        go_wp2_with fail
        (refine (clamp_at n lo hi n H.out P _).mono ?_; rintro e w1 ⟨rfl, hb1⟩; have hB1 : Below w.heap.size w w1 := (by refine Below.trans ?_ (hb1.mono (by first | omega | (simp; done) | (simp; omega))); (repeat (first | exact Below.refl _ _ | assumption | refine Below.drew ?_ | refine below_drewN ?_ _ | refine Below.setCell ?_ (by first | omega | (simp; done) | (simp; omega)) _ | refine Below.alloc ?_ (by first | omega | (simp; done) | (simp; omega)) _))); have hsz1 : w.heap.size ≤ w1.heap.size := hB1.size)
        go_wp2_with fail
        (refine (clamp_at n lo hi n H.out P _).mono ?_; rintro e w2 ⟨rfl, hb2⟩; have hB2 : Below w.heap.size w w2 := (by refine Below.trans ?_ (hb2.mono (by first | omega | (simp; done) | (simp; omega))); (repeat (first | exact Below.refl _ _ | assumption | refine Below.drew ?_ | refine below_drewN ?_ _ | refine Below.setCell ?_ (by first | omega | (simp; done) | (simp; omega)) _ | refine Below.alloc ?_ (by first | omega | (simp; done) | (simp; omega)) _))); have hsz2 : w.heap.size ≤ w2.heap.size := hB2.size)
        go_wp2_with fail
        (refine (parted_any _).mono ?_; rintro e w3 ⟨rfl, hb3⟩; have hB3 : Below w.heap.size w w3 := (by refine Below.trans ?_ (hb3.mono (by first | omega | (simp; done) | (simp; omega))); (repeat (first | exact Below.refl _ _ | assumption | refine Below.drew ?_ | refine below_drewN ?_ _ | refine Below.setCell ?_ (by first | omega | (simp; done) | (simp; omega)) _ | refine Below.alloc ?_ (by first | omega | (simp; done) | (simp; omega)) _))); have hsz3 : w.heap.size ≤ w3.heap.size := hB3.size)
        go_wp2
        go_ret
        exact ⟨rfl, hB3⟩

/-- Sqrt's answer as an int. -/
def IsR (n R : Int) : Prop := ∃ r : Nat, R = r ∧ IsRt n r
theorem sqrt_at (n R : Int) (w : World) (h0 : 0 ≤ n) (h : IsR n R) :
    Calls Try.prog 16 #[.int .i64 n] w fun e w' => e = .returned (.tuple #[.int .i64 R, .int .i64 0]) ∧ Below w.heap.size w w' := by
  obtain ⟨r, rfl, h⟩ := h
  exact sqrt_ok n r w h0 h
theorem isR_facts {n R : Int} (h : IsR n R) : 0 ≤ R ∧ R ≤ 3037000499 ∧ R * R ≤ n ∧ (R < 3037000499 → n < (R + 1) * (R + 1)) ∧ IsR (R * R) R ∧ 0 ≤ R * R ∧ R * R ≤ 9223372030926249001 ∧ (R < 3037000499 → 0 ≤ (R + 1) * (R + 1) ∧ (R + 1) * (R + 1) ≤ 9223372030926249001) := by
  obtain ⟨r, rfl, h1, h2, h3⟩ := h
  refine ⟨by omega, by omega, h2, fun k => h3 (by omega), ⟨r, rfl, rt_sq r h1⟩, Int.mul_nonneg (by omega) (by omega), sq_max r h1, fun k => ⟨Int.mul_nonneg (by omega) (by omega), ?_⟩⟩
  have := sq_max (r + 1) (by omega)
  push_cast at this
  exact this
theorem exists_R (n : Int) (h : 0 ≤ n) : ∃ R, IsR n R := by
  obtain ⟨r, hr⟩ := exists_rt n h
  exact ⟨r, r, rfl, hr⟩

set_option maxRecDepth 100000 in
set_option maxHeartbeats 1000000 in
theorem law_sqrt (n : Int) (w : World) (i1 : -9223372036854775808 ≤ n) (i2 : n ≤ 9223372036854775807) :
    Calls Try.prog 7 #[.int .i64 n] w fun e w' => e = .returned (.bool true) ∧ Below w.heap.size w w' := by
  by_cases h : n < 0
  · go_enter Try.func7, Try.ntmps7
    go_wp2_with fail
    (refine (sqrt_arg n _ h).mono ?_; rintro e w1 ⟨rfl, hb1⟩; have hB1 : Below w.heap.size w w1 := (by refine Below.trans ?_ (hb1.mono (by first | omega | (simp; done) | (simp; omega))); (repeat (first | exact Below.refl _ _ | assumption | refine Below.drew ?_ | refine below_drewN ?_ _ | refine Below.setCell ?_ (by first | omega | (simp; done) | (simp; omega)) _ | refine Below.alloc ?_ (by first | omega | (simp; done) | (simp; omega)) _))); have hsz1 : w.heap.size ≤ w1.heap.size := hB1.size)
    go_wp2_with fail
    (refine (parted_any _).mono ?_; rintro e w2 ⟨rfl, hb2⟩; have hB2 : Below w.heap.size w w2 := (by refine Below.trans ?_ (hb2.mono (by first | omega | (simp; done) | (simp; omega))); (repeat (first | exact Below.refl _ _ | assumption | refine Below.drew ?_ | refine below_drewN ?_ _ | refine Below.setCell ?_ (by first | omega | (simp; done) | (simp; omega)) _ | refine Below.alloc ?_ (by first | omega | (simp; done) | (simp; omega)) _))); have hsz2 : w.heap.size ≤ w2.heap.size := hB2.size)
    go_wp2
    go_ret
    exact ⟨rfl, hB2⟩
  · have h0 : 0 ≤ n := by omega
    obtain ⟨r, hr⟩ := exists_R n h0
    have R := Lib.hid hr
    obtain ⟨r0, r1, r2, r3, rS, q1, q0, r4⟩ := isR_facts hr
    have S := Lib.hid rS
    clear h hr rS
    by_cases k : r < 3037000499
    · have q2 := r3 k
      obtain ⟨q3, q4⟩ := r4 k
      clear r3 r4
      go_enter Try.func7, Try.ntmps7
      go_wp2_with fail
      (refine (sqrt_at n r _ h0 R.out).mono ?_; rintro e w1 ⟨rfl, hb1⟩; have hB1 : Below w.heap.size w w1 := (by refine Below.trans ?_ (hb1.mono (by first | omega | (simp; done) | (simp; omega))); (repeat (first | exact Below.refl _ _ | assumption | refine Below.drew ?_ | refine below_drewN ?_ _ | refine Below.setCell ?_ (by first | omega | (simp; done) | (simp; omega)) _ | refine Below.alloc ?_ (by first | omega | (simp; done) | (simp; omega)) _))); have hsz1 : w.heap.size ≤ w1.heap.size := hB1.size)
      go_wp2_with fail
      (refine (sqrt_at (r * r) r _ q1 S.out).mono ?_; rintro e w2 ⟨rfl, hb2⟩; have hB2 : Below w.heap.size w w2 := (by refine Below.trans ?_ (hb2.mono (by first | omega | (simp; done) | (simp; omega))); (repeat (first | exact Below.refl _ _ | assumption | refine Below.drew ?_ | refine below_drewN ?_ _ | refine Below.setCell ?_ (by first | omega | (simp; done) | (simp; omega)) _ | refine Below.alloc ?_ (by first | omega | (simp; done) | (simp; omega)) _))); have hsz2 : w.heap.size ≤ w2.heap.size := hB2.size)
      go_wp2_with fail
      (refine (parted_any _).mono ?_; rintro e w3 ⟨rfl, hb3⟩; have hB3 : Below w.heap.size w w3 := (by refine Below.trans ?_ (hb3.mono (by first | omega | (simp; done) | (simp; omega))); (repeat (first | exact Below.refl _ _ | assumption | refine Below.drew ?_ | refine below_drewN ?_ _ | refine Below.setCell ?_ (by first | omega | (simp; done) | (simp; omega)) _ | refine Below.alloc ?_ (by first | omega | (simp; done) | (simp; omega)) _))); have hsz3 : w.heap.size ≤ w3.heap.size := hB3.size)
      go_wp2
      go_ret
      exact ⟨rfl, hB3⟩
    · clear r3 r4
      go_enter Try.func7, Try.ntmps7
      go_wp2_with fail
      (refine (sqrt_at n r _ h0 R.out).mono ?_; rintro e w1 ⟨rfl, hb1⟩; have hB1 : Below w.heap.size w w1 := (by refine Below.trans ?_ (hb1.mono (by first | omega | (simp; done) | (simp; omega))); (repeat (first | exact Below.refl _ _ | assumption | refine Below.drew ?_ | refine below_drewN ?_ _ | refine Below.setCell ?_ (by first | omega | (simp; done) | (simp; omega)) _ | refine Below.alloc ?_ (by first | omega | (simp; done) | (simp; omega)) _))); have hsz1 : w.heap.size ≤ w1.heap.size := hB1.size)
      go_wp2_with fail
      (refine (sqrt_at (r * r) r _ q1 S.out).mono ?_; rintro e w2 ⟨rfl, hb2⟩; have hB2 : Below w.heap.size w w2 := (by refine Below.trans ?_ (hb2.mono (by first | omega | (simp; done) | (simp; omega))); (repeat (first | exact Below.refl _ _ | assumption | refine Below.drew ?_ | refine below_drewN ?_ _ | refine Below.setCell ?_ (by first | omega | (simp; done) | (simp; omega)) _ | refine Below.alloc ?_ (by first | omega | (simp; done) | (simp; omega)) _))); have hsz2 : w.heap.size ≤ w2.heap.size := hB2.size)
      go_wp2_with fail
      (refine (parted_any _).mono ?_; rintro e w3 ⟨rfl, hb3⟩; have hB3 : Below w.heap.size w w3 := (by refine Below.trans ?_ (hb3.mono (by first | omega | (simp; done) | (simp; omega))); (repeat (first | exact Below.refl _ _ | assumption | refine Below.drew ?_ | refine below_drewN ?_ _ | refine Below.setCell ?_ (by first | omega | (simp; done) | (simp; omega)) _ | refine Below.alloc ?_ (by first | omega | (simp; done) | (simp; omega)) _))); have hsz3 : w.heap.size ≤ w3.heap.size := hB3.size)
      go_wp2
      go_ret
      exact ⟨rfl, hB3⟩

theorem floor2_err (a b : Int) (w : World) (ia : In64 a) (ib : In64 b) (h : fE a b ≠ 0) :
    Calls Try.prog 10 #[.int .i64 a, .int .i64 b] w fun e w' => e = .returned (.tuple #[.int .i64 0, .int .i64 0, .int .i64 (fE a b)]) ∧ Below w.heap.size w w' := by
  have := floor2_any a b w ia ib
  unfold fQ fR at this
  rwa [if_neg h, if_neg h] at this
theorem ceil_err (a b : Int) (w : World) (ia : In64 a) (ib : In64 b) (h : fE a b ≠ 0) :
    Calls Try.prog 12 #[.int .i64 a, .int .i64 b] w fun e w' => e = .returned (.tuple #[.int .i64 0, .int .i64 (fE a b)]) ∧ Below w.heap.size w w' := by
  have := ceil_any a b w ia ib
  unfold cQ at this
  rwa [if_neg h] at this
theorem ceil_at (a b c : Int) (w : World) (ia : In64 a) (ib : In64 b) (h : fE a b = 0) (hc : clQ a b = c) :
    Calls Try.prog 12 #[.int .i64 a, .int .i64 b] w fun e w' => e = .returned (.tuple #[.int .i64 c, .int .i64 0]) ∧ Below w.heap.size w w' := by
  have := ceil_any a b w ia ib
  unfold cQ at this
  rwa [h, if_pos rfl, hc] at this

set_option maxRecDepth 100000 in
set_option maxHeartbeats 1000000 in
theorem law_ceil (a b : Int) (w : World) (ia : In64 a) (ib : In64 b) :
    Calls Try.prog 5 #[.int .i64 a, .int .i64 b] w fun e w' => e = .returned (.bool true) ∧ Below w.heap.size w w' := by
  by_cases z : fE a b = 0
  · have h : Dvb a b := by
      rcases fE_ways a b with ⟨h, e⟩ | ⟨_, e⟩ | ⟨_, _, e⟩
      · exact h
      · omega
      · omega
    obtain ⟨f1, f2, f3, f4, f5⟩ := fl_bd a b h.1 ia.1 ia.2 ib.1 ib.2 h.2
    have F := Lib.hid (fun W => floor2_ok a b W h ia ib)
    by_cases k : flR a b = 0
    · have C := Lib.hid (fun W => ceil_at a b (flQ a b) W ia ib z (by unfold clQ; rw [if_pos k]))
      rw [k] at F
      clear z k h f3 f4 f5 ia ib
      generalize flQ a b = q at *
      go_enter Try.func5, Try.ntmps5
      go_wp2_with fail
      (refine (F.out _).mono ?_; rintro e w1 ⟨rfl, hb1⟩; have hB1 : Below w.heap.size w w1 := (by refine Below.trans ?_ (hb1.mono (by first | omega | (simp; done) | (simp; omega))); (repeat (first | exact Below.refl _ _ | assumption | refine Below.drew ?_ | refine below_drewN ?_ _ | refine Below.setCell ?_ (by first | omega | (simp; done) | (simp; omega)) _ | refine Below.alloc ?_ (by first | omega | (simp; done) | (simp; omega)) _))); have hsz1 : w.heap.size ≤ w1.heap.size := hB1.size)
      go_wp2_with fail
      (refine (C.out _).mono ?_; rintro e w2 ⟨rfl, hb2⟩; have hB2 : Below w.heap.size w w2 := (by refine Below.trans ?_ (hb2.mono (by first | omega | (simp; done) | (simp; omega))); (repeat (first | exact Below.refl _ _ | assumption | refine Below.drew ?_ | refine below_drewN ?_ _ | refine Below.setCell ?_ (by first | omega | (simp; done) | (simp; omega)) _ | refine Below.alloc ?_ (by first | omega | (simp; done) | (simp; omega)) _))); have hsz2 : w.heap.size ≤ w2.heap.size := hB2.size)
      go_wp2_with fail
      (refine (parted_any _).mono ?_; rintro e w3 ⟨rfl, hb3⟩; have hB3 : Below w.heap.size w w3 := (by refine Below.trans ?_ (hb3.mono (by first | omega | (simp; done) | (simp; omega))); (repeat (first | exact Below.refl _ _ | assumption | refine Below.drew ?_ | refine below_drewN ?_ _ | refine Below.setCell ?_ (by first | omega | (simp; done) | (simp; omega)) _ | refine Below.alloc ?_ (by first | omega | (simp; done) | (simp; omega)) _))); have hsz3 : w.heap.size ≤ w3.heap.size := hB3.size)
      go_wp2
      go_ret
      exact ⟨rfl, hB3⟩
    · have C := Lib.hid (fun W => ceil_at a b (flQ a b + 1) W ia ib z (by unfold clQ; rw [if_neg k]))
      have f6 := f5 k
      have k1 : (flR a b == 0) = false := by rw [beq_eq_false_iff_ne]; exact k
      have k2 : (flR a b != 0) = true := by rw [bne_iff_ne]; exact k
      clear z k h f5 ia ib
      generalize flQ a b = q at *
      generalize flR a b = r at *
      have d9 : decide (q < q + 1) = true := decide_eq_true (by omega)
      go_enter Try.func5, Try.ntmps5
      go_wp2_with fail
      (refine (F.out _).mono ?_; rintro e w1 ⟨rfl, hb1⟩; have hB1 : Below w.heap.size w w1 := (by refine Below.trans ?_ (hb1.mono (by first | omega | (simp; done) | (simp; omega))); (repeat (first | exact Below.refl _ _ | assumption | refine Below.drew ?_ | refine below_drewN ?_ _ | refine Below.setCell ?_ (by first | omega | (simp; done) | (simp; omega)) _ | refine Below.alloc ?_ (by first | omega | (simp; done) | (simp; omega)) _))); have hsz1 : w.heap.size ≤ w1.heap.size := hB1.size)
      go_wp2_with fail
      (refine (C.out _).mono ?_; rintro e w2 ⟨rfl, hb2⟩; have hB2 : Below w.heap.size w w2 := (by refine Below.trans ?_ (hb2.mono (by first | omega | (simp; done) | (simp; omega))); (repeat (first | exact Below.refl _ _ | assumption | refine Below.drew ?_ | refine below_drewN ?_ _ | refine Below.setCell ?_ (by first | omega | (simp; done) | (simp; omega)) _ | refine Below.alloc ?_ (by first | omega | (simp; done) | (simp; omega)) _))); have hsz2 : w.heap.size ≤ w2.heap.size := hB2.size)
      go_wp2_with fail
      (refine (parted_any _).mono ?_; rintro e w3 ⟨rfl, hb3⟩; have hB3 : Below w.heap.size w w3 := (by refine Below.trans ?_ (hb3.mono (by first | omega | (simp; done) | (simp; omega))); (repeat (first | exact Below.refl _ _ | assumption | refine Below.drew ?_ | refine below_drewN ?_ _ | refine Below.setCell ?_ (by first | omega | (simp; done) | (simp; omega)) _ | refine Below.alloc ?_ (by first | omega | (simp; done) | (simp; omega)) _))); have hsz3 : w.heap.size ≤ w3.heap.size := hB3.size)
      go_wp2
      go_ret
      exact ⟨rfl, hB3⟩
  · have F := Lib.hid (fun W => floor2_err a b W ia ib z)
    have C := Lib.hid (fun W => ceil_err a b W ia ib z)
    have k2 : (fE a b != 0) = true := by rw [bne_iff_ne]; exact z
    clear z ia ib
    generalize fE a b = x at *
    go_enter Try.func5, Try.ntmps5
    go_wp2_with fail
    (refine (F.out _).mono ?_; rintro e w1 ⟨rfl, hb1⟩; have hB1 : Below w.heap.size w w1 := (by refine Below.trans ?_ (hb1.mono (by first | omega | (simp; done) | (simp; omega))); (repeat (first | exact Below.refl _ _ | assumption | refine Below.drew ?_ | refine below_drewN ?_ _ | refine Below.setCell ?_ (by first | omega | (simp; done) | (simp; omega)) _ | refine Below.alloc ?_ (by first | omega | (simp; done) | (simp; omega)) _))); have hsz1 : w.heap.size ≤ w1.heap.size := hB1.size)
    go_wp2_with fail
    (refine (C.out _).mono ?_; rintro e w2 ⟨rfl, hb2⟩; have hB2 : Below w.heap.size w w2 := (by refine Below.trans ?_ (hb2.mono (by first | omega | (simp; done) | (simp; omega))); (repeat (first | exact Below.refl _ _ | assumption | refine Below.drew ?_ | refine below_drewN ?_ _ | refine Below.setCell ?_ (by first | omega | (simp; done) | (simp; omega)) _ | refine Below.alloc ?_ (by first | omega | (simp; done) | (simp; omega)) _))); have hsz2 : w.heap.size ≤ w2.heap.size := hB2.size)
    go_wp2_with fail
    (refine (parted_any _).mono ?_; rintro e w3 ⟨rfl, hb3⟩; have hB3 : Below w.heap.size w w3 := (by refine Below.trans ?_ (hb3.mono (by first | omega | (simp; done) | (simp; omega))); (repeat (first | exact Below.refl _ _ | assumption | refine Below.drew ?_ | refine below_drewN ?_ _ | refine Below.setCell ?_ (by first | omega | (simp; done) | (simp; omega)) _ | refine Below.alloc ?_ (by first | omega | (simp; done) | (simp; omega)) _))); have hsz3 : w.heap.size ≤ w3.heap.size := hB3.size)
    go_wp2
    go_ret
    exact ⟨rfl, hB3⟩
end Go.Proofs.Ytjndajndllimhaa
