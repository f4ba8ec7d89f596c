/-
  Contracts of the reference of package whole: Gcd.
-/
import Derived.Test.YtbcbocnblkepcaaWhC
namespace Go.Proofs.Ytbcbocnblkepcaa
open Go.RowKit

set_option maxRecDepth 100000 in
set_option maxHeartbeats 2000000 in
theorem rgcd_any (a : Option Addr) (l : List Int) (c : Nat) (w : World) (hr : RowL w a l c) (hi : AllI l) (hc : c ≤ 9223372036854775807) :
    Calls Try.prog 26 #[.slice a l.length c] w fun e w' => e = .returned (.tuple #[.int .i64 (gP l), .int .i64 (gX l)]) ∧ Below w.heap.size w w' := by
  have R := Lib.hid hr
  have I := Lib.hid hi
  have hn : l.length ≤ 9223372036854775807 := Nat.le_trans hr.1 hc
  clear hr hi
  go_enter Try.func26, Try.ntmps26
  go_wp2_with fail
  go_loop [4, 5] (fun x y => ∃ k g : Nat, x = .int .i64 (-(g : Int)) ∧ y = .int .i64 k ∧ k ≤ l.length ∧ g ≤ 9223372036854775808 ∧ Hid (g = gcdL (l.take k))) (fun _ y => l.length - (intOf y).toNat)
  case atStart => exact ⟨0, 0, rfl, rfl, by omega, by omega, Lib.hid rfl⟩
  case round =>
    obtain ⟨k, g, rfl, rfl, hk, hg, G⟩ := hrel
    by_cases hlt : k < l.length
    · obtain ⟨b, off, rfl, hl, hcell⟩ := R.out.at hlt
      have hx := I.out _ (getD_mem hlt)
      have T := Lib.hid (take_getD hlt)
      generalize l.getD k 0 = x at *
      have hm : x.natAbs ≤ 9223372036854775808 := by unfold In64 at hx; omega
      have hm2 : 0 < x → x.natAbs ≤ 9223372036854775807 := by unfold In64 at hx; omega
      have E : Hid (Nat.gcd g x.natAbs = gcdL (l.take (k + 1))) := Lib.hid (by rw [T.out, gcdL_snoc, ← G.out])
      clear G T hx
      by_cases hp : 0 < x
      · have hm3 := hm2 hp
        obtain ⟨m, rfl⟩ : ∃ m : Nat, x = (m : Int) := ⟨x.natAbs, by omega⟩
        rw [Int.natAbs_natCast] at *
        clear hm2
        go_wp2_with fail
        go_loop [4, 6] (fun x y => ∃ c d : Nat, x = .int .i64 (-(c : Int)) ∧ y = .int .i64 (-(d : Int)) ∧ c ≤ 9223372036854775808 ∧ d ≤ 9223372036854775808 ∧ Hid (Nat.gcd c d = gcdL (l.take (k + 1)))) (fun _ y => (intOf y).natAbs)
        case atStart => exact ⟨g, m, rfl, rfl, hg, hm, E⟩
        case round =>
          obtain ⟨c, d, rfl, rfl, hc1, hd1, Q⟩ := hrel
          rcases Nat.eq_zero_or_pos d with z | z
          · subst z
            have e : c = gcdL (l.take (k + 1)) := by have := Q.out; rwa [Nat.gcd_zero_right] at this
            have EE := Lib.hid e
            have n1 : (-((0 : Nat) : Int)) = 0 := rfl
            rw [n1]
            clear e Q n1
            go_wp2
            go_round
            case rel => exact ⟨k + 1, c, rfl, by go_num, hlt, hc1, EE⟩
            case measure => simp [intOf]; omega
          · have z1 : ((-(d : Int)) != 0) = true := by rw [bne_iff_ne]; omega
            have z2 : ((-(d : Int)) == 0) = false := by rw [beq_eq_false_iff_ne]; omega
            have hlt2 : c % d < d := Nat.mod_lt _ z
            rcases Nat.eq_zero_or_pos c with y | y
            · subst y
              have n1 : (-((0 : Nat) : Int)) = 0 := rfl
              rw [n1]
              clear n1 hlt2
              go_wp2
              go_round
              case rel => exact ⟨d, 0, rfl, rfl, hd1, by omega, Lib.hid (by have := Q.out; rw [Nat.gcd_zero_left] at this; rw [Nat.gcd_zero_right]; exact this)⟩
              case measure => simp [intOf]; omega
            · have y2 : ((-(c : Int)) == 0) = false := by rw [beq_eq_false_iff_ne]; omega
              go_wp2
              go_round
              case rel => exact ⟨d, c % d, rfl, rfl, hd1, by omega, Lib.hid (by rw [← Q.out, Nat.gcd_comm c d, Nat.gcd_rec d c, Nat.gcd_comm (c % d) d])⟩
              case measure => show (-((c % d : Nat) : Int)).natAbs < (-(d : Int)).natAbs; omega
      · obtain ⟨m, rfl⟩ : ∃ m : Nat, x = -(m : Int) := ⟨x.natAbs, by omega⟩
        rw [Int.natAbs_neg, Int.natAbs_natCast] at *
        clear hm2
        go_wp2_with fail
        go_loop [4, 6] (fun x y => ∃ c d : Nat, x = .int .i64 (-(c : Int)) ∧ y = .int .i64 (-(d : Int)) ∧ c ≤ 9223372036854775808 ∧ d ≤ 9223372036854775808 ∧ Hid (Nat.gcd c d = gcdL (l.take (k + 1)))) (fun _ y => (intOf y).natAbs)
        case atStart => exact ⟨g, m, rfl, rfl, hg, hm, E⟩
        case round =>
          obtain ⟨c, d, rfl, rfl, hc1, hd1, Q⟩ := hrel
          rcases Nat.eq_zero_or_pos d with z | z
          · subst z
            have e : c = gcdL (l.take (k + 1)) := by have := Q.out; rwa [Nat.gcd_zero_right] at this
            have EE := Lib.hid e
            have n1 : (-((0 : Nat) : Int)) = 0 := rfl
            rw [n1]
            clear e Q n1
            go_wp2
            go_round
            case rel => exact ⟨k + 1, c, rfl, by go_num, hlt, hc1, EE⟩
            case measure => simp [intOf]; omega
          · have z1 : ((-(d : Int)) != 0) = true := by rw [bne_iff_ne]; omega
            have z2 : ((-(d : Int)) == 0) = false := by rw [beq_eq_false_iff_ne]; omega
            have hlt2 : c % d < d := Nat.mod_lt _ z
            rcases Nat.eq_zero_or_pos c with y | y
            · subst y
              have n1 : (-((0 : Nat) : Int)) = 0 := rfl
              rw [n1]
              clear n1 hlt2
              go_wp2
              go_round
              case rel => exact ⟨d, 0, rfl, rfl, hd1, by omega, Lib.hid (by have := Q.out; rw [Nat.gcd_zero_left] at this; rw [Nat.gcd_zero_right]; exact this)⟩
              case measure => simp [intOf]; omega
            · have y2 : ((-(c : Int)) == 0) = false := by rw [beq_eq_false_iff_ne]; omega
              go_wp2
              go_round
              case rel => exact ⟨d, c % d, rfl, rfl, hd1, by omega, Lib.hid (by rw [← Q.out, Nat.gcd_comm c d, Nat.gcd_rec d c, Nat.gcd_comm (c % d) d])⟩
              case measure => show (-((c % d : Nat) : Int)).natAbs < (-(d : Int)).natAbs; omega
    · have e : g = gcdL l := by have := G.out; rwa [List.take_of_length_le (by omega)] at this
      by_cases h0 : g = 9223372036854775808
      · have P : Hid (gP l = 0 ∧ gX l = 4) := Lib.hid (by unfold gP gX; rw [← e, if_pos h0, if_pos h0]; exact ⟨rfl, rfl⟩)
        clear e G
        subst h0
        have n1 : (-((9223372036854775808 : Nat) : Int)) = -9223372036854775808 := rfl
        rw [n1]
        clear n1
        go_wp2
        go_ret2
        exact ⟨by rw [P.out.1, P.out.2]; rfl, by (repeat (first | exact Below.refl _ _ | assumption | refine Below.drew ?_ | refine below_drewN ?_ _ | refine Below.setCell ?_ (by first | omega | (simp; done) | (simp; omega)) _ | refine Below.alloc ?_ (by first | omega | (simp; done) | (simp; omega)) _))⟩
      · have P : Hid (gP l = g ∧ gX l = 0) := Lib.hid (by unfold gP gX; rw [← e, if_neg h0, if_neg h0]; exact ⟨rfl, rfl⟩)
        have h1 : g ≤ 9223372036854775807 := by omega
        have h2 : ((-(g : Int)) == -9223372036854775808) = false := by rw [beq_eq_false_iff_ne]; omega
        clear h0 e G
        go_wp2
        go_ret2
        exact ⟨by rw [P.out.1, P.out.2]; simp, by (repeat (first | exact Below.refl _ _ | assumption | refine Below.drew ?_ | refine below_drewN ?_ _ | refine Below.setCell ?_ (by first | omega | (simp; done) | (simp; omega)) _ | refine Below.alloc ?_ (by first | omega | (simp; done) | (simp; omega)) _))⟩
end Go.Proofs.Ytbcbocnblkepcaa
