/-
  The reference of layer 5: Row; the law's far.
-/
import Derived.Test.YtehfmapbodjppaaDoorScRB
namespace Go.Proofs.YtehfmapbodjppaaDoor
open Go.RowKit

set_option maxRecDepth 100000 in
set_option maxHeartbeats 4000000 in
theorem rrow_any (a : Option Addr) (n c : Nat) (F : Nat → ByteArray) (w : World) (hr : RowS w a n c F) (hn : n ≤ 1000) :
    Calls Tryd.prog 12 #[.slice a n c] w (RetRowE F n w) := by
  have R := Lib.hid hr
  clear hr
  have HB := Lib.hid (Below.refl w.heap.size w)
  go_enter Tryd.func12, Tryd.ntmps12
  go_wp2_with fail
  go_loopw [4, 5] (fun v x wr => ∃ k : Nat, x = .int .i64 k ∧ k ≤ n ∧ erS F k = 0 ∧ wr.ownsRow w.heap.size 3 1 v k (upto (stS F) k) ∧ Below w.heap.size w wr) (fun _ x _ => n - (intOf x).toNat)
  case atStart => exact ⟨0, rfl, Nat.zero_le _, rfl, World.ownsRow_nil _ _ _ _, HB.out⟩
  case round =>
    obtain ⟨k, rfl, hk, hE, hO, hB⟩ := hrel
    replace HB := Lib.hid hB
    have HO := Lib.hid hO
    have HE := Lib.hid hE
    clear hB hO hE
    by_cases hlt : k < n
    · obtain ⟨b, off, rfl, hl, hc⟩ := (R.out.keep HB.out).at hlt
      have c1 := hc k hlt
      have i0' : (0 : Int) ≤ (k : Int) := by omega
      have i1 : (k : Int) < n := by omega
      have C := Lib.hid (fun W => rparse_any (F k) W)
      have U := Lib.hid (upto_succ (stS F) k)
      have hst : stS F k = (parseS (F k).data.toList).1 := rfl
      unfold retP at C
      rw [← hst] at C
      have E1 : Hid (erS F (k + 1) = (parseS (F k).data.toList).2) := Lib.hid (by show (if erS F k ≠ 0 then _ else _) = _; rw [if_neg (fun q => q HE.out)])
      obtain ⟨z, hz⟩ : ∃ z, stS F k = z := ⟨_, rfl⟩
      obtain ⟨e, he⟩ : ∃ e, (parseS (F k).data.toList).2 = e := ⟨_, rfl⟩
      rw [he] at C E1
      rw [hz] at C U
      clear hst hz he hc
      by_cases h0 : e = 0
      · subst h0
        go_wp2_with fail
        (with_reducible refine (C.out _).mono ?_); rintro e' w2 ⟨rfl, hb⟩
        replace HO := Lib.hid (own_keep HO.out hb)
        replace HB := Lib.hid (HB.out.trans (hb.mono HB.out.size))
        clear hb c1
        have hkk : k ≤ 1000000 := by omega
        have hbs := HB.out.size
        have hO := HO.out
        go_wp2_with (at_builtin; refine app_int rfl _ _ rfl w.heap.size u4 k _ z rfl hO rfl hkk hbs ?_)
        intro v' w3 hO3 hB3
        rw [← U.out] at hO3
        replace HB := Lib.hid (HB.out.trans hB3)
        clear hB3 HO
        go_wp2
        go_roundw
        case rel => exact ⟨k + 1, by go_num, hlt, E1.out, hO3, HB.out⟩
        case measure => simp [intOf]; omega
      · have q0 : (e != 0) = true := by simp [h0]
        have EN : Hid (erS F n = e) := Lib.hid (by
          have := erS_stop F (k := k + 1) (by rw [E1.out]; exact h0) (n - (k + 1))
          rw [show k + 1 + (n - (k + 1)) = n from by omega, E1.out] at this; exact this)
        go_wp2_with fail
        (((with_reducible refine (C.out _).mono ?_); rintro e w1 ⟨rfl, hb1⟩); replace HB := Lib.hid (HB.out.trans (hb1.mono HB.out.size)); clear hb1)
        go_wp2_with fail
        go_ret2
        exact ⟨HB.out, .inl ⟨by rw [EN.out]; exact h0, by rw [EN.out]; rfl⟩⟩
    · obtain rfl : k = n := by omega
      obtain ⟨a', c', rfl, hr', hc', -⟩ := row_of_own HO.out
      replace hr' := Lib.hid hr'
      clear HO
      go_wp2
      go_ret2
      exact ⟨HB.out, .inr ⟨HE.out, a', c', rfl, hr'.out, hc'⟩⟩

set_option maxRecDepth 100000 in
set_option maxHeartbeats 1000000 in
theorem far_any (a : Option Addr) (n c : Nat) (F : Nat → ByteArray) (w : World) (hr : RowS w a n c F) (hn : n ≤ 9223372036854775807) :
    Calls Tryd.prog 8 #[.slice a n c] w fun e w' => ∃ b : Bool, e = .returned (.bool b) ∧ (b = false → n ≤ 30) ∧ Below w.heap.size w w' := by
  have R := Lib.hid hr
  clear hr
  have HB := Lib.hid (Below.refl w.heap.size w)
  go_enter Tryd.func8, Tryd.ntmps8
  go_wp2_with fail
  go_loopw [3] (fun x wr => ∃ k : Nat, x = .int .i64 k ∧ k ≤ n ∧ Below w.heap.size w wr) (fun x _ => n - (intOf x).toNat)
  case atStart => exact ⟨0, rfl, Nat.zero_le _, HB.out⟩
  case round =>
    obtain ⟨k, rfl, hk, hB⟩ := hrel
    replace HB := Lib.hid hB
    clear hB
    by_cases hlt : k < n
    · obtain ⟨b, off, rfl, hl, hc⟩ := (R.out.keep HB.out).at hlt
      have c1 := hc k hlt
      have i0' : (0 : Int) ≤ (k : Int) := by omega
      have i1 : (k : Int) < n := by omega
      clear hc
      obtain ⟨S, hS⟩ : ∃ S, F k = S := ⟨_, rfl⟩
      rw [hS] at c1
      clear hS
      by_cases h1 : (100 : Int) < S.size
      · go_wp2_with fail
        go_ret
        exact ⟨true, rfl, fun q => absurd q (by decide), HB.out⟩
      · go_wp2_with fail
        go_roundw
        case rel => exact ⟨k + 1, by go_num, hlt, HB.out⟩
        case measure => simp [intOf]; omega
    · obtain rfl : k = n := by omega
      go_wp2
      go_ret
      exact ⟨_, rfl, fun q => (by have := of_decide_eq_false q; omega), HB.out⟩
end Go.Proofs.YtehfmapbodjppaaDoor
