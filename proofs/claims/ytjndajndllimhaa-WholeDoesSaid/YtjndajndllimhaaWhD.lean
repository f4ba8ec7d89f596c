/-
  Contracts of package whole and of its reference: Sqrt.
-/
import Derived.Test.YtjndajndllimhaaWhA
namespace Go.Proofs.Ytjndajndllimhaa
open Go.RowKit

theorem sqrt_arg (n : Int) (w : World) (h : n < 0) :
    Calls Try.prog 16 #[.int .i64 n] w fun e w' => e = .returned (.tuple #[.int .i64 0, .int .i64 1]) ∧ Below w.heap.size w w' := by
  go_enter Try.func16, Try.ntmps16
  go_wp2
  go_ret2
  exact ⟨rfl, by (repeat (first | exact Below.refl _ _ | assumption | refine Below.drew ?_ | refine below_drewN ?_ _ | refine Below.setCell ?_ (by first | omega | (simp; done) | (simp; omega)) _ | refine Below.alloc ?_ (by first | omega | (simp; done) | (simp; omega)) _))⟩
theorem rsqrt_arg (n : Int) (w : World) (h : n < 0) :
    Calls Try.prog 17 #[.int .i64 n] w fun e w' => e = .returned (.tuple #[.int .i64 0, .int .i64 1]) ∧ Below w.heap.size w w' := by
  go_enter Try.func17, Try.ntmps17
  go_wp2
  go_ret2
  exact ⟨rfl, by (repeat (first | exact Below.refl _ _ | assumption | refine Below.drew ?_ | refine below_drewN ?_ _ | refine Below.setCell ?_ (by first | omega | (simp; done) | (simp; omega)) _ | refine Below.alloc ?_ (by first | omega | (simp; done) | (simp; omega)) _))⟩

theorem pw_le {j : Nat} (h : j ≤ 31) : 2 ^ j ≤ 2147483648 := Nat.pow_le_pow_right (n := 2) (by decide) h
theorem pw_two (j : Nat) : (2 : Nat) ^ (j + 1) = 2 ^ j + 2 ^ j := by rw [Nat.pow_succ]; omega
/-- Between two bits. -/
def SqMid (n : Int) (s e : Nat) : Prop := (s : Int) * s ≤ n ∧ (3037000499 < e ∨ n < (e : Int) * e)

set_option maxHeartbeats 1000000 in
theorem rsqrt_ok (n : Int) (r : Nat) (w : World) (h0 : 0 ≤ n) (h1 : n ≤ 9223372036854775807) (hr : IsRt n r) :
    Calls Try.prog 17 #[.int .i64 n] w fun e w' => e = .returned (.tuple #[.int .i64 r, .int .i64 0]) ∧ Below w.heap.size w w' := by
  have HR := Lib.hid hr
  clear hr
  go_enter Try.func17, Try.ntmps17
  go_wp2_with fail
  go_loop [4, 5] (fun x y => ∃ k s : Nat, k ≤ 32 ∧ x = .int .i64 s ∧ y = .int .i64 (bt k) ∧ s ≤ 3037000499 ∧ Hid (SqMid n s (s + 2 ^ k))) (fun _ y => (intOf y).toNat)
  case atStart => exact ⟨32, 0, by omega, rfl, rfl, by omega, Lib.hid ⟨by simpa using h0, .inl (by decide)⟩⟩
  case round =>
    obtain ⟨k, s, hk, rfl, rfl, hs, I⟩ := hrel
    rcases Nat.eq_zero_or_pos k with k0 | k0
    · subst k0
      have e : s = r := rt_unique ⟨hs, I.out.1, fun h => by
        rcases I.out.2 with c | c
        · omega
        · simpa using c⟩ HR.out
      subst e
      have b0 : bt 0 = 0 := rfl
      rw [b0]
      clear I b0
      go_wp2
      go_ret2
      exact ⟨rfl, by (repeat (first | exact Below.refl _ _ | assumption | refine Below.drew ?_ | refine below_drewN ?_ _ | refine Below.setCell ?_ (by first | omega | (simp; done) | (simp; omega)) _ | refine Below.alloc ?_ (by first | omega | (simp; done) | (simp; omega)) _))⟩
    · obtain ⟨j, rfl⟩ : ∃ j, k = j + 1 := ⟨k - 1, by omega⟩
      have hB : bt (j + 1) = ((2 ^ j : Nat) : Int) := by show (2 : Int) ^ j = _; push_cast; rfl
      have H2 := Lib.hid (bt_half j)
      rw [hB] at H2 ⊢
      rw [pw_two] at I
      have p1 := pw_le (j := j) (by omega)
      have p0 : 0 < 2 ^ j := Nat.two_pow_pos j
      clear hB
      have HJ : Hid (j ≤ 32) := Lib.hid (by omega)
      generalize hP : 2 ^ j = P at *
      have HP := Lib.hid hP
      clear hP hk k0
      by_cases c1 : s + P ≤ 3037000499
      · have q0 := sq_max (s + P) c1
        have q1 : (0 : Int) ≤ ((s + P : Nat) : Int) * ((s + P : Nat) : Int) := Int.mul_nonneg (by omega) (by omega)
        push_cast at q0 q1
        by_cases c2 : ((s : Int) + P) * ((s : Int) + P) ≤ n
        · have d1 : decide (((s : Int) + P) * ((s : Int) + P) ≤ n) = true := decide_eq_true c2
          have C2 := Lib.hid c2
          clear c2
          go_wp2
          go_round
          case rel => exact ⟨j, s + P, HJ.out, by go_num, by rw [← H2.out], c1, Lib.hid ⟨by push_cast; exact C2.out, by rw [HP.out, Nat.add_assoc]; exact I.out.2⟩⟩
          case measure => simp [intOf]; omega
        · have d1 : decide (((s : Int) + P) * ((s : Int) + P) ≤ n) = false := decide_eq_false c2
          have C2 := Lib.hid c2
          clear c2
          go_wp2
          go_round
          case rel => exact ⟨j, s, HJ.out, rfl, by rw [← H2.out], hs, Lib.hid ⟨I.out.1, by rw [HP.out]; exact .inr (by have := C2.out; push_cast; omega)⟩⟩
          case measure => simp [intOf]; omega
      · go_wp2
        go_round
        case rel => exact ⟨j, s, HJ.out, rfl, by rw [← H2.out], hs, Lib.hid ⟨I.out.1, by rw [HP.out]; exact .inl (by omega)⟩⟩
        case measure => simp [intOf]; omega

set_option maxHeartbeats 400000 in
theorem closure_any (n : Int) (g i : Nat) (v : Bool) (W : World) (hi : i < 3037000499) (hc : W.cell? ⟨g, 0, none⟩ = some (.int .i64 n)) (hv : Hid (decide (n < ((i : Int) + 1) * ((i : Int) + 1)) = v)) :
    Calls Try.prog 26 #[.int .i64 i, .pointer (some ⟨g, 0, none⟩)] W fun e w' => e = .returned (.bool v) ∧ w' = W := by
  have q0 := sq_max (i + 1) (by omega)
  have q1 : (0 : Int) ≤ ((i + 1 : Nat) : Int) * ((i + 1 : Nat) : Int) := Int.mul_nonneg (by omega) (by omega)
  push_cast at q0 q1
  go_enter Try.func26, Try.ntmps26
  go_wp2
  go_ret
  exact ⟨congrArg (fun b => Ending.returned (.bool b)) hv.out, rfl⟩

set_option maxHeartbeats 1000000 in
theorem search_any (n : Int) (g : Nat) (r : Nat) (W : World) (h0 : 0 ≤ n) (hc : W.cell? ⟨g, 0, none⟩ = some (.int .i64 n)) (hr : IsRt n r) :
    Calls Try.prog 27 #[.int .i64 3037000499, .func (.func 26) #[] #[.pointer (some ⟨g, 0, none⟩)]] W fun e w' => e = .returned (.int .i64 r) ∧ w' = W := by
  have HR := Lib.hid hr
  clear hr
  go_enter Try.func27, Try.ntmps27
  go_wp2_with fail
  go_loop [5, 6] (fun x y => ∃ lo hi : Nat, x = .int .i64 lo ∧ y = .int .i64 hi ∧ lo ≤ hi ∧ hi ≤ 3037000499 ∧ Hid ((lo : Int) * lo ≤ n ∧ (hi < 3037000499 → n < ((hi : Int) + 1) * ((hi : Int) + 1)))) (fun x y => (intOf y - intOf x).toNat)
  case atStart => exact ⟨0, 3037000499, rfl, rfl, by omega, by omega, Lib.hid ⟨by simpa using h0, by omega⟩⟩
  case round =>
    obtain ⟨lo, hi, rfl, rfl, l1, l2, I⟩ := hrel
    by_cases hlt : lo < hi
    · by_cases hp : n < ((((lo + hi) / 2 : Nat) : Int) + 1) * ((((lo + hi) / 2 : Nat) : Int) + 1)
      · have C := closure_any n g ((lo + hi) / 2) true W (by omega) hc (Lib.hid (decide_eq_true hp))
        have HP := Lib.hid hp
        clear hp
        rw [show (((lo + hi) / 2 : Nat) : Int) = ((lo : Int) + (hi : Int)) / 2 by omega] at C
        go_wp2_with (go_at_call 26; refine C.mono ?_; rintro e w' ⟨rfl, rfl⟩)
        go_round
        case rel => exact ⟨lo, (lo + hi) / 2, rfl, congrArg (Value.int .i64) (by omega), by omega, by omega, Lib.hid ⟨I.out.1, fun _ => HP.out⟩⟩
        case measure => simp [intOf]; omega
      · have C := closure_any n g ((lo + hi) / 2) false W (by omega) hc (Lib.hid (decide_eq_false hp))
        have HP := Lib.hid hp
        clear hp
        rw [show (((lo + hi) / 2 : Nat) : Int) = ((lo : Int) + (hi : Int)) / 2 by omega] at C
        go_wp2_with (go_at_call 26; refine C.mono ?_; rintro e w' ⟨rfl, rfl⟩)
        go_round
        case rel => exact ⟨(lo + hi) / 2 + 1, hi, congrArg (Value.int .i64) (by omega), rfl, by omega, by omega, Lib.hid ⟨by have := HP.out; push_cast at this ⊢; omega, I.out.2⟩⟩
        case measure => simp [intOf]; omega
    · obtain rfl : hi = lo := by omega
      obtain rfl : hi = r := rt_unique ⟨l2, I.out⟩ HR.out
      clear I
      go_wp2
      go_ret
      exact ⟨rfl, rfl⟩
set_option maxHeartbeats 400000 in
theorem sqrt_ok (n : Int) (r : Nat) (w : World) (h0 : 0 ≤ n) (hr : IsRt n r) :
    Calls Try.prog 16 #[.int .i64 n] w fun e w' => e = .returned (.tuple #[.int .i64 r, .int .i64 0]) ∧ Below w.heap.size w w' := by
  have HR := Lib.hid hr
  clear hr
  go_enter Try.func16, Try.ntmps16
  have c0 : (w.alloc (.cells #[.int .i64 n] 3)).cell? ⟨w.heap.size, 0, none⟩ = some (.int .i64 n) := alloc_cell rfl rfl
  go_wp2_with fail
  refine (search_any n _ r _ h0 c0 HR.out).mono ?_
  rintro e w' ⟨rfl, rfl⟩
  go_wp2
  go_ret2
  exact ⟨rfl, by (repeat (first | exact Below.refl _ _ | assumption | refine Below.drew ?_ | refine below_drewN ?_ _ | refine Below.setCell ?_ (by first | omega | (simp; done) | (simp; omega)) _ | refine Below.alloc ?_ (by first | omega | (simp; done) | (simp; omega)) _))⟩
end Go.Proofs.Ytjndajndllimhaa
