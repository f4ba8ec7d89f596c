/-
  Contracts of package vec: Is2, Is3.
-/
import Derived.Test.YtfghjfgdjlkooaaVcA
namespace Go.Proofs.Ytfghjfgdjlkooaa
open Go.RowKit

set_option maxRecDepth 100000 in
set_option maxHeartbeats 1000000 in
theorem is3_any (A : Option Addr) (n c : Nat) (F : Nat → Nat → Int) (w : World) (hr : RowK w A n 3 F) (hn : n ≤ 9223372036854775807) :
    Calls Try.prog 58 #[.slice A n c] w fun e w' => e = .returned (.bool (a3 F n)) ∧ Below w.heap.size w w' := by
  have R := Lib.hid hr
  clear hr
  go_enter Try.func58, Try.ntmps58
  go_wp2_with fail
  go_loopw [7] (fun x wr => ∃ k : Nat, x = .int .i64 k ∧ k ≤ n ∧ (∀ j, j < k → n3 (F j 0) (F j 1) (F j 2) = true) ∧ Below w.heap.size w wr) (fun x _ => n - (intOf x).toNat)
  case atStart => exact ⟨0, rfl, Nat.zero_le _, fun j h => absurd h (by omega), by (repeat (first | exact Below.refl _ _ | assumption | refine Below.drew ?_ | refine below_drewN ?_ _ | refine Below.setCell ?_ (by first | omega | (simp; done) | (simp; omega)) _ | refine Below.alloc ?_ (by first | omega | (simp; done) | (simp; omega)) _))⟩
  case round =>
    obtain ⟨k, rfl, hk, hR, hB⟩ := hrel
    have HB := Lib.hid hB
    have HR := Lib.hid hR
    clear hB hR
    by_cases hlt : k < n
    · obtain ⟨b, o, rfl, hb, hc⟩ := (R.out.keep HB.out).at hlt
      have c0 := hc k hlt 0 (by omega)
      have c1 := hc k hlt 1 (by omega)
      have c2 := hc k hlt 2 (by omega)
      rw [Nat.add_zero] at c0
      rw [← Nat.add_assoc] at c1 c2
      have no : n3 (F k 0) (F k 1) (F k 2) = false → a3 F n = false := allB_no (P := fun i => n3 (F i 0) (F i 1) (F i 2)) hlt
      have yes : n3 (F k 0) (F k 1) (F k 2) = true → ∀ j, j < k + 1 → n3 (F j 0) (F j 1) (F j 2) = true := fun q j hj => by
        by_cases e : j = k
        · rw [e]; exact q
        · exact HR.out j (by omega)
      generalize F k 0 = x at *
      generalize F k 1 = y at *
      generalize F k 2 = z at *
      have NO := Lib.hid no
      have YES := Lib.hid yes
      clear no yes hc
      have i0 : (0 : Int) ≤ (k : Int) := by omega
      have i1 : (k : Int) < (n : Int) := by omega
      have i2 : ((k : Int)).toNat = k := by omega
      go_wp2_with fail
      have hbp := below_new1 wr (.cells #[.int .i64 x, .int .i64 y, .int .i64 z] 23)
      have zp : (wr.alloc (.cells #[.int .i64 x, .int .i64 y, .int .i64 z] 23)).heap.size = wr.heap.size + 1 := by simp
      replace HB := Lib.hid (HB.out.trans (hbp.mono HB.out.size))
      have kp := Lib.hid (Lok.new wr 23 #[.int .i64 x, .int .i64 y, .int .i64 z])
      clear hbp
      generalize wr.alloc (.cells #[.int .i64 x, .int .i64 y, .int .i64 z] 23) = Vp at *
      have hbq := below_new1 Vp (.cells #[.int .i64 x, .int .i64 y, .int .i64 z] 3)
      replace kp := Lib.hid (kp.out.keep hbq)
      have zq : (Vp.alloc (.cells #[.int .i64 x, .int .i64 y, .int .i64 z] 3)).heap.size = Vp.heap.size + 1 := by simp
      replace HB := Lib.hid (HB.out.trans (hbq.mono HB.out.size))
      have kq := Lib.hid (Lok.new Vp 3 #[.int .i64 x, .int .i64 y, .int .i64 z])
      clear hbq
      generalize Vp.alloc (.cells #[.int .i64 x, .int .i64 y, .int .i64 z] 3) = Vq at *
      rw [zp] at kq zq
      clear zp zq
      (((with_reducible refine (isNear_3 x y z _ _ _ kq.out).mono ?_); rintro e w1 ⟨rfl, hb1⟩); replace HB := Lib.hid (HB.out.trans (hb1.mono HB.out.size)); clear hb1)
      cases hn2 : n3 x y z with
      | false =>
        have E := Lib.hid (NO.out hn2)
        clear NO YES hn2 c0 c1
        go_wp2
        go_ret
        exact ⟨by rw [E.out]; rfl, HB.out⟩
      | true =>
        have E := Lib.hid (YES.out hn2)
        clear NO YES hn2 c0 c1
        go_wp2
        go_roundw
        case rel => exact ⟨k + 1, by go_num, hlt, E.out, HB.out⟩
        case measure => simp [intOf]; omega
    · obtain rfl : k = n := by omega
      go_wp2
      go_ret
      refine ⟨?_, HB.out⟩
      have e : a3 F k = true := allB_yes HR.out
      rw [e]; rfl
/-- A row of points that lies in a block of the call's own. -/
theorem rowK_ints {W : World} {g n k : Nat} {T : TypeId} (l : List Int) (h : Lok W g T (ints l)) (hl : l.length = n * k) : RowK W (some ⟨g, 0, none⟩) n k (rowOf k l) := by
  refine .inr ⟨g, 0, rfl, h.lt, fun i hi j hj => ?_⟩
  rw [Nat.zero_add]
  refine h.cell (ints_at ?_)
  rw [hl]
  calc i * k + j < i * k + k := by omega
    _ = (i + 1) * k := by rw [Nat.add_mul, Nat.one_mul]
    _ ≤ n * k := Nat.mul_le_mul_right _ hi
theorem is3_two (a b c d e f : Int) (g : Nat) (T : TypeId) (w : World) (h : Lok w g T #[.int .i64 a, .int .i64 b, .int .i64 c, .int .i64 d, .int .i64 e, .int .i64 f]) :
    Calls Try.prog 58 #[.slice (some ⟨g, 0, none⟩) 2 2] w fun e' w' => e' = .returned (.bool (n3 a b c && n3 d e f)) ∧ Below w.heap.size w w' := by
  have q := is3_any _ 2 2 _ w (rowK_ints (n := 2) (k := 3) [a, b, c, d, e, f] h rfl) (by omega)
  rw [show a3 (rowOf 3 [a, b, c, d, e, f]) 2 = (n3 a b c && n3 d e f) from by simp [a3, allB, rowOf]] at q
  exact q
theorem is3_one (a b c : Int) (g : Nat) (T : TypeId) (w : World) (h : Lok w g T #[.int .i64 a, .int .i64 b, .int .i64 c]) :
    Calls Try.prog 58 #[.slice (some ⟨g, 0, none⟩) 1 1] w fun e w' => e = .returned (.bool (n3 a b c)) ∧ Below w.heap.size w w' := by
  have q := is3_any _ 1 1 _ w (rowK_ints (n := 1) (k := 3) [a, b, c] h rfl) (by omega)
  rw [show a3 (rowOf 3 [a, b, c]) 1 = n3 a b c from by simp [a3, allB, rowOf]] at q
  exact q
theorem is3_none (w : World) :
    Calls Try.prog 58 #[.slice none 0 0] w fun e w' => e = .returned (.bool true) ∧ Below w.heap.size w w' := is3_any none 0 0 (fun _ _ => 0) w (.inl rfl) (by omega)
end Go.Proofs.Ytfghjfgdjlkooaa
