/-
  Contracts of package frac: how two of a row stand; the least of a row.
-/
import Derived.Test.YtbcbocnblkepcaaFrC
import Derived.Test.YtbcbocnblkepcaaOpenK
import Derived.Test.YtbcbocnblkepcaaWideR
namespace Go.Proofs.Ytbcbocnblkepcaa
open Go.RowKit

/-- How two of a row stand. -/
def cmpK (F : Nat → Nat → Int) (i j : Nat) : Int := cmpF (F i 0) (F i 1) (F j 0) (F j 1)
theorem cmpK_bd (F : Nat → Nat → Int) (i j : Nat) : -1 ≤ cmpK F i j ∧ cmpK F i j ≤ 1 := cmpF_bd _ _ _ _
def PastF (V W : World) : Prop := Below V.heap.size V W
theorem past_stays (V : World) : Stays (PastF V) := fun _ _ h hb => Below.trans h (hb.mono (Below.size h))

set_option maxRecDepth 100000 in
set_option maxHeartbeats 2000000 in
theorem rowCompare_any (A : Option Addr) (n c i j : Nat) (F : Nat → Nat → Int) (w : World) (hr : RowK w A n 2 F) (hi : i < n) (hj : j < n) :
    Calls Try.prog 27 #[.slice A n c, .int .i64 i, .int .i64 j] w fun e w' => e = .returned (.int .i64 (cmpK F i j)) ∧ Below w.heap.size w w' := by
  obtain ⟨b, o, rfl, hb, hc⟩ := hr.at hi
  have C := Lib.hid (fun W => fcmp_any (F i 0) (F i 1) (F j 0) (F j 1) W)
  unfold cmpK
  generalize cmpF (F i 0) (F i 1) (F j 0) (F j 1) = z at *
  have c0 := hc i hi 0 (by omega)
  have c1 := hc i hi 1 (by omega)
  have d0 := hc j hj 0 (by omega)
  have d1 := hc j hj 1 (by omega)
  rw [Nat.add_zero] at c0 d0
  rw [← Nat.add_assoc] at c1 d1
  generalize F i 0 = p at *
  generalize F i 1 = q at *
  generalize F j 0 = r at *
  generalize F j 1 = s at *
  have a0 : ∀ d : Of (PastF w), d.world.cell? ⟨b, o + i * 2, none⟩ = some (.int .i64 p) := fun d => keepc d.holds c0
  have a1 : ∀ d : Of (PastF w), d.world.cell? ⟨b, o + i * 2 + 1, none⟩ = some (.int .i64 q) := fun d => keepc d.holds c1
  have a2 : ∀ d : Of (PastF w), d.world.cell? ⟨b, o + j * 2, none⟩ = some (.int .i64 r) := fun d => keepc d.holds d0
  have a3 : ∀ d : Of (PastF w), d.world.cell? ⟨b, o + j * 2 + 1, none⟩ = some (.int .i64 s) := fun d => keepc d.holds d1
  have ST := Lib.hid (past_stays w)
  have ne : Nonempty (Of (PastF w)) := ⟨⟨w, Below.refl _ _⟩⟩
  clear hr hc c0 c1 d0 d1
  go_enter Try.func27, Try.ntmps27
  go_upto_region 1 with fail
  refine wp_region_class (S := PastF w) (by kernel_rfl) (by kernel_rfl) (Below.refl _ _).drew ?_
  repeat (go_big_quiet_step (first | (go_at_call 21; exact class_call ST.out _ (C.out _))))
  refine wpQuiet_nil ?_
  rintro _ ⟨d, rfl⟩
  have HD := Lib.hid (show Below w.heap.size w d.world from d.holds)
  clear a0 a1 a2 a3 ne ST
  go_wp2
  go_ret
  exact ⟨rfl, HD.out⟩

/-- The place of the first one than which none is less. -/
def lsF (F : Nat → Nat → Int) : Nat → Nat
  | 0 => 0
  | k + 1 => if cmpK F k (lsF F k) < 0 then k else lsF F k
theorem lsF_le (F : Nat → Nat → Int) (k : Nat) : lsF F k ≤ k - 1 := by
  induction k with
  | zero => exact Nat.le_refl _
  | succ k ih => unfold lsF; split <;> omega
theorem lsF_lt (F : Nat → Nat → Int) {k : Nat} (h : 0 < k) : lsF F k < k := by have := lsF_le F k; omega
theorem lsF_take (F : Nat → Nat → Int) {k : Nat} (h : cmpK F k (lsF F k) < 0) : lsF F (k + 1) = k := by show (if _ then _ else _) = _; rw [if_pos h]
theorem lsF_keep (F : Nat → Nat → Int) {k : Nat} (h : ¬ cmpK F k (lsF F k) < 0) : lsF F (k + 1) = lsF F k := by show (if _ then _ else _) = _; rw [if_neg h]

set_option maxRecDepth 100000 in
set_option maxHeartbeats 2000000 in
theorem least_any (A : Option Addr) (n c : Nat) (F : Nat → Nat → Int) (w : World) (hr : RowK w A n 2 F) (hn : n ≤ 9223372036854775807) :
    Calls Try.prog 13 #[.slice A n c] w fun e w' => e = .returned (.tuple #[.int .i64 (lsF F n), .bool (decide (0 < n))]) ∧ Below w.heap.size w w' := by
  have R := Lib.hid hr
  clear hr
  go_enter Try.func13, Try.ntmps13
  go_wp2_with fail
  go_loopw [4, 8] (fun x y wr => ∃ k : Nat, x = .int .i64 (lsF F k) ∧ y = .int .i64 k ∧ k ≤ n ∧ Below w.heap.size w wr) (fun _ y _ => n - (intOf y).toNat)
  case atStart => exact ⟨0, rfl, rfl, Nat.zero_le _, by (repeat (first | exact Below.refl _ _ | assumption | refine Below.drew ?_ | refine below_drewN ?_ _ | refine Below.setCell ?_ (by first | omega | (simp; done) | (simp; omega)) _ | refine Below.alloc ?_ (by first | omega | (simp; done) | (simp; omega)) _))⟩
  case round =>
    obtain ⟨k, rfl, rfl, hk, hB⟩ := hrel
    have hsz := hB.size
    by_cases hlt : k < n
    · have C := Lib.hid (rowCompare_any A n c k (lsF F k) F wr (R.out.keep hB) hlt (by have := lsF_le F k; omega))
      have HB := Lib.hid hB
      clear hB
      by_cases s : cmpK F k (lsF F k) < 0
      · have L := Lib.hid (lsF_take F s)
        have ds : decide (cmpK F k (lsF F k) < 0) = true := decide_eq_true s
        generalize cmpK F k (lsF F k) = z at *
        generalize lsF F k = m at *
        clear s
        go_wp2_with fail
        (((with_reducible refine (C.out).mono ?_); rintro e w1 ⟨rfl, hb1⟩); replace HB := Lib.hid (HB.out.trans (hb1.mono HB.out.size)); clear hb1)
        go_wp2
        go_roundw
        case rel => exact ⟨k + 1, by rw [L.out], by go_num, hlt, HB.out⟩
        case measure => simp [intOf]; omega
      · have L := Lib.hid (lsF_keep F s)
        have ds : decide (cmpK F k (lsF F k) < 0) = false := decide_eq_false s
        generalize cmpK F k (lsF F k) = z at *
        generalize lsF F k = m at *
        clear s
        go_wp2_with fail
        (((with_reducible refine (C.out).mono ?_); rintro e w1 ⟨rfl, hb1⟩); replace HB := Lib.hid (HB.out.trans (hb1.mono HB.out.size)); clear hb1)
        go_wp2
        go_roundw
        case rel => exact ⟨k + 1, by rw [L.out], by go_num, hlt, HB.out⟩
        case measure => simp [intOf]; omega
    · obtain rfl : k = n := by omega
      go_wp2
      go_ret2
      exact ⟨by congr, hB⟩
end Go.Proofs.Ytbcbocnblkepcaa
