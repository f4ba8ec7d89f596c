/-
  The reference's numbers: value.
-/
import Derived.Test.YtjndajndllimhaaDoorRefH
namespace Go.Proofs.YtjndajndllimhaaDoor
open Go.RowKit

theorem vs_part {A : Nat → Int} (ha : Ds A) (f j l : Nat) : 0 ≤ vs A (f + j) l ∧ vs A (f + j) l ≤ vs A f (j + l) := by
  rw [vs_split]
  have b1 := vs_bd (n := f + j) (D := A) (fun i _ => ha i) j f (by omega)
  have b2 := vs_bd (n := f + j + l) (D := A) (fun i _ => ha i) l (f + j) (by omega)
  have p := p10_pos j
  have : 1 * vs A (f + j) l ≤ p10 j * vs A (f + j) l := Int.mul_le_mul_of_nonneg_right p b2.1
  omega

set_option maxRecDepth 100000 in
set_option maxHeartbeats 1000000 in
theorem value_any (a : Option Addr) (n c f m : Nat) (D : Nat → Int) (w : World) (ra : RowF w a n c D) (da : Dg D n) (hn : n ≤ 1000000) (hf : f ≤ 1000000) (hm : m ≤ 1000000) (hv : vs (dgt D n) f m ≤ 9223372036854775807) :
    Calls Tryd.prog 41 #[.slice a n c, .int .i64 f, .int .i64 m] w fun e w' => e = .returned (.int .i64 (vs (dgt D n) f m)) ∧ Below w.heap.size w w' := by
  have HA := Lib.hid (dgt_Ds da)
  have HV := Lib.hid hv
  have RA := Lib.hid ra
  clear hv da ra
  go_enter Tryd.func41, Tryd.ntmps41
  go_wp2_with fail
  go_loop [7, 8] (fun x i => ∃ k : Nat, k ≤ m ∧ i = .int .i64 ((f : Int) + k - 1) ∧ x = .int .i64 (vs (dgt D n) (f + k) (m - k))) (fun _ i => (intOf i - f + 1).toNat)
  case atStart => exact ⟨m, Nat.le_refl _, rfl, by rw [Nat.sub_self]; rfl⟩
  case round =>
    obtain ⟨k, hk, rfl, rfl⟩ := hrel
    rcases Nat.eq_zero_or_pos k with hk0 | hk0
    · subst hk0
      go_wp2
      exact bodyPost_ret (v := .int .i64 (vs (dgt D n) f m)) (by simp [results, Tryd.results41, go_sem]) rfl ⟨rfl, by (repeat (first | exact Below.refl _ _ | assumption | refine Below.drew ?_ | refine below_drewN ?_ _ | refine Below.setCell ?_ (by first | omega | (simp; done) | (simp; omega)) _ | refine Below.alloc ?_ (by first | omega | (simp; done) | (simp; omega)) _))⟩
    · obtain ⟨j, rfl⟩ : ∃ j, k = j + 1 := ⟨k - 1, by omega⟩
      rw [show (f : Int) + ((j + 1 : Nat) : Int) - 1 = ((f + j : Nat) : Int) from by omega]
      obtain ⟨l, rfl⟩ : ∃ l, m = j + 1 + l := ⟨m - (j + 1), by omega⟩
      rw [show j + 1 + l - (j + 1) = l from by omega]
      have p1 := vs_part HA.out f j (l + 1)
      have p2 := vs_part HA.out f (j + 1) l
      rw [show j + (l + 1) = j + 1 + l from by omega] at p1
      have e : vs (dgt D n) (f + j) (l + 1) = dgt D n (f + j) + 10 * vs (dgt D n) (f + (j + 1)) l := rfl
      have q := HA.out (f + j)
      have h9 := HV.out
      have HE := Lib.hid e
      have g1 : 10 * vs (dgt D n) (f + (j + 1)) l + dgt D n (f + j) ≤ 9223372036854775807 := by omega
      clear p1 h9 e
      generalize hX : vs (dgt D n) (f + (j + 1)) l = X at *
      by_cases hlt : f + j < n
      · obtain ⟨b, off, rfl, hl, h⟩ := RA.out.at hlt
        have hc := h (f + j) hlt
        have hd : dgt D n (f + j) = D (f + j) := by unfold dgt; rw [if_pos hlt]
        rw [hd] at q g1
        clear h

        go_wp2
        go_round
        case rel => exact ⟨j, by omega, by go_num, by rw [show j + 1 + l - j = l + 1 from by omega, HE.out, hd]; go_num⟩
        case measure => simp [intOf]; omega
      · have hd : dgt D n (f + j) = 0 := by unfold dgt; rw [if_neg hlt]
        rw [hd] at q g1
        go_wp2
        go_round
        case rel => exact ⟨j, by omega, by go_num, by rw [show j + 1 + l - j = l + 1 from by omega, HE.out, hd]; go_num⟩
        case measure => simp [intOf]; omega
end Go.Proofs.YtjndajndllimhaaDoor
