/-
  The reference limewashref09: Small2, Small3, All2, All3, side, Area, Side. (gen/SgR.py)
-/
import Derived.Test.YtfghjfgdjlkooaaSgB
import Derived.Test.YtfghjfgdjlkooaaSgC
namespace Go.Proofs.Ytfghjfgdjlkooaa
open Go.RowKit

set_option maxRecDepth 100000 in
set_option maxHeartbeats 1000000 in
theorem rsmall3_any (x y z : Int) (w : World) :
    Calls Try.prog 29 #[.agg #[.int .i64 x, .int .i64 y, .int .i64 z]] w fun e' w' => e' = .returned (.bool (s3 x y z)) ∧ Below w.heap.size w w' := by
  have HB := Lib.hid (Below.refl w.heap.size w)
  by_cases h0 : -16384 ≤ x
  · by_cases h1 : x ≤ 16384
    · by_cases h2 : -16384 ≤ y
      · by_cases h3 : y ≤ 16384
        · by_cases h4 : -16384 ≤ z
          · by_cases h5 : z ≤ 16384
            · rw [show s3 x y z = true from s3_iff.2 ⟨⟨h0, h1⟩, ⟨h2, h3⟩, ⟨h4, h5⟩⟩]
              go_enter Try.func29, Try.ntmps29
              go_upto_region 1 with fail
              have hbp := below_new1 w (.cells #[.int .i64 x, .int .i64 y, .int .i64 z] 23)
              have zp : (w.alloc (.cells #[.int .i64 x, .int .i64 y, .int .i64 z] 23)).heap.size = w.heap.size + 1 := by simp
              have HB := Lib.hid hbp
              have kp := Lib.hid (Lok.new w 23 #[.int .i64 x, .int .i64 y, .int .i64 z])
              clear hbp
              generalize w.alloc (.cells #[.int .i64 x, .int .i64 y, .int .i64 z] 23) = Vp at *
              clear zp
              have p0 := kp.out.cell (i := 0) rfl
              have p1 := kp.out.cell (i := 1) rfl
              have p2 := kp.out.cell (i := 2) rfl
              go_wp2
              go_ret
              exact ⟨rfl, HB.out⟩
            · rw [show s3 x y z = false from by cases e : s3 x y z with | false => rfl | true => exact absurd (s3_iff.1 e) (fun h => h5 (h.2.2.2))]
              have d5 : decide (z ≤ 16384) = false := decide_eq_false h5
              go_enter Try.func29, Try.ntmps29
              go_upto_region 1 with fail
              have hbp := below_new1 w (.cells #[.int .i64 x, .int .i64 y, .int .i64 z] 23)
              have zp : (w.alloc (.cells #[.int .i64 x, .int .i64 y, .int .i64 z] 23)).heap.size = w.heap.size + 1 := by simp
              have HB := Lib.hid hbp
              have kp := Lib.hid (Lok.new w 23 #[.int .i64 x, .int .i64 y, .int .i64 z])
              clear hbp
              generalize w.alloc (.cells #[.int .i64 x, .int .i64 y, .int .i64 z] 23) = Vp at *
              clear zp
              have p0 := kp.out.cell (i := 0) rfl
              have p1 := kp.out.cell (i := 1) rfl
              have p2 := kp.out.cell (i := 2) rfl
              go_wp2
              go_ret
              exact ⟨rfl, HB.out⟩
          · rw [show s3 x y z = false from by cases e : s3 x y z with | false => rfl | true => exact absurd (s3_iff.1 e) (fun h => h4 (h.2.2.1))]
            have d4 : decide (-16384 ≤ z) = false := decide_eq_false h4
            go_enter Try.func29, Try.ntmps29
            go_upto_region 1 with fail
            have hbp := below_new1 w (.cells #[.int .i64 x, .int .i64 y, .int .i64 z] 23)
            have zp : (w.alloc (.cells #[.int .i64 x, .int .i64 y, .int .i64 z] 23)).heap.size = w.heap.size + 1 := by simp
            have HB := Lib.hid hbp
            have kp := Lib.hid (Lok.new w 23 #[.int .i64 x, .int .i64 y, .int .i64 z])
            clear hbp
            generalize w.alloc (.cells #[.int .i64 x, .int .i64 y, .int .i64 z] 23) = Vp at *
            clear zp
            have p0 := kp.out.cell (i := 0) rfl
            have p1 := kp.out.cell (i := 1) rfl
            have p2 := kp.out.cell (i := 2) rfl
            go_wp2
            go_ret
            exact ⟨rfl, HB.out⟩
        · rw [show s3 x y z = false from by cases e : s3 x y z with | false => rfl | true => exact absurd (s3_iff.1 e) (fun h => h3 (h.2.1.2))]
          have d3 : decide (y ≤ 16384) = false := decide_eq_false h3
          go_enter Try.func29, Try.ntmps29
          go_upto_region 1 with fail
          have hbp := below_new1 w (.cells #[.int .i64 x, .int .i64 y, .int .i64 z] 23)
          have zp : (w.alloc (.cells #[.int .i64 x, .int .i64 y, .int .i64 z] 23)).heap.size = w.heap.size + 1 := by simp
          have HB := Lib.hid hbp
          have kp := Lib.hid (Lok.new w 23 #[.int .i64 x, .int .i64 y, .int .i64 z])
          clear hbp
          generalize w.alloc (.cells #[.int .i64 x, .int .i64 y, .int .i64 z] 23) = Vp at *
          clear zp
          have p0 := kp.out.cell (i := 0) rfl
          have p1 := kp.out.cell (i := 1) rfl
          have p2 := kp.out.cell (i := 2) rfl
          go_wp2
          go_ret
          exact ⟨rfl, HB.out⟩
      · rw [show s3 x y z = false from by cases e : s3 x y z with | false => rfl | true => exact absurd (s3_iff.1 e) (fun h => h2 (h.2.1.1))]
        have d2 : decide (-16384 ≤ y) = false := decide_eq_false h2
        go_enter Try.func29, Try.ntmps29
        go_upto_region 1 with fail
        have hbp := below_new1 w (.cells #[.int .i64 x, .int .i64 y, .int .i64 z] 23)
        have zp : (w.alloc (.cells #[.int .i64 x, .int .i64 y, .int .i64 z] 23)).heap.size = w.heap.size + 1 := by simp
        have HB := Lib.hid hbp
        have kp := Lib.hid (Lok.new w 23 #[.int .i64 x, .int .i64 y, .int .i64 z])
        clear hbp
        generalize w.alloc (.cells #[.int .i64 x, .int .i64 y, .int .i64 z] 23) = Vp at *
        clear zp
        have p0 := kp.out.cell (i := 0) rfl
        have p1 := kp.out.cell (i := 1) rfl
        have p2 := kp.out.cell (i := 2) rfl
        go_wp2
        go_ret
        exact ⟨rfl, HB.out⟩
    · rw [show s3 x y z = false from by cases e : s3 x y z with | false => rfl | true => exact absurd (s3_iff.1 e) (fun h => h1 (h.1.2))]
      have d1 : decide (x ≤ 16384) = false := decide_eq_false h1
      go_enter Try.func29, Try.ntmps29
      go_upto_region 1 with fail
      have hbp := below_new1 w (.cells #[.int .i64 x, .int .i64 y, .int .i64 z] 23)
      have zp : (w.alloc (.cells #[.int .i64 x, .int .i64 y, .int .i64 z] 23)).heap.size = w.heap.size + 1 := by simp
      have HB := Lib.hid hbp
      have kp := Lib.hid (Lok.new w 23 #[.int .i64 x, .int .i64 y, .int .i64 z])
      clear hbp
      generalize w.alloc (.cells #[.int .i64 x, .int .i64 y, .int .i64 z] 23) = Vp at *
      clear zp
      have p0 := kp.out.cell (i := 0) rfl
      have p1 := kp.out.cell (i := 1) rfl
      have p2 := kp.out.cell (i := 2) rfl
      go_wp2
      go_ret
      exact ⟨rfl, HB.out⟩
  · rw [show s3 x y z = false from by cases e : s3 x y z with | false => rfl | true => exact absurd (s3_iff.1 e) (fun h => h0 (h.1.1))]
    have d0 : decide (-16384 ≤ x) = false := decide_eq_false h0
    go_enter Try.func29, Try.ntmps29
    go_upto_region 1 with fail
    have hbp := below_new1 w (.cells #[.int .i64 x, .int .i64 y, .int .i64 z] 23)
    have zp : (w.alloc (.cells #[.int .i64 x, .int .i64 y, .int .i64 z] 23)).heap.size = w.heap.size + 1 := by simp
    have HB := Lib.hid hbp
    have kp := Lib.hid (Lok.new w 23 #[.int .i64 x, .int .i64 y, .int .i64 z])
    clear hbp
    generalize w.alloc (.cells #[.int .i64 x, .int .i64 y, .int .i64 z] 23) = Vp at *
    clear zp
    have p0 := kp.out.cell (i := 0) rfl
    have p1 := kp.out.cell (i := 1) rfl
    have p2 := kp.out.cell (i := 2) rfl
    go_wp2
    go_ret
    exact ⟨rfl, HB.out⟩
set_option maxRecDepth 100000 in
set_option maxHeartbeats 1000000 in
theorem rall3_any (A : Option Addr) (n c : Nat) (F : Nat → Nat → Int) (w : World) (hr : RowK w A n 3 F) (hn : n ≤ 9223372036854775807) :
    Calls Try.prog 25 #[.slice A n c] w fun e w' => e = .returned (.bool (aS3 F n)) ∧ Below w.heap.size w w' := by
  have R := Lib.hid hr
  clear hr
  go_enter Try.func25, Try.ntmps25
  go_wp2_with fail
  go_loopw [3] (fun x wr => ∃ k : Nat, x = .int .i64 k ∧ k ≤ n ∧ (∀ j, j < k → s3 (F j 0) (F j 1) (F j 2) = true) ∧ Below w.heap.size w wr) (fun x _ => n - (intOf x).toNat)
  case atStart => exact ⟨0, rfl, Nat.zero_le _, fun j h => absurd h (by omega), by (repeat (first | exact Below.refl _ _ | assumption | refine Below.drew ?_ | refine below_drewN ?_ _ | refine Below.setCell ?_ (by first | omega | (simp; done) | (simp; omega)) _ | refine Below.alloc ?_ (by first | omega | (simp; done) | (simp; omega)) _))⟩
  case round =>
    obtain ⟨k, rfl, hk, hR, hB⟩ := hrel
    have HB := Lib.hid hB
    have HR := Lib.hid hR
    clear hB hR
    by_cases hlt : k < n
    · obtain ⟨b, o, rfl, hb, hc⟩ := (R.out.keep HB.out).at hlt
      have c0 := hc k hlt 0 (by omega)
      have c1 := hc k hlt 1 (by omega)
      have c2 := hc k hlt 2 (by omega)
      rw [Nat.add_zero] at c0
      rw [← Nat.add_assoc] at c1 c2
      have no : s3 (F k 0) (F k 1) (F k 2) = false → aS3 F n = false := allB_no (P := fun i => s3 (F i 0) (F i 1) (F i 2)) hlt
      have yes : s3 (F k 0) (F k 1) (F k 2) = true → ∀ j, j < k + 1 → s3 (F j 0) (F j 1) (F j 2) = true := fun q j hj => by
        by_cases e : j = k
        · rw [e]; exact q
        · exact HR.out j (by omega)
      generalize F k 0 = x at *
      generalize F k 1 = y at *
      generalize F k 2 = z at *
      have NO := Lib.hid no
      have YES := Lib.hid yes
      clear no yes hc
      have SM1 := Lib.hid (fun W => rsmall3_any x y z W)
      have i0 : (0 : Int) ≤ (k : Int) := by omega
      have i1 : (k : Int) < (n : Int) := by omega
      have i2 : ((k : Int)).toNat = k := by omega
      go_wp2_with fail
      (((with_reducible refine (SM1.out _).mono ?_); rintro e w1 ⟨rfl, hb1⟩); replace HB := Lib.hid (HB.out.trans (hb1.mono HB.out.size)); clear hb1)
      clear SM1
      cases hn2 : s3 x y z with
      | false =>
        have E := Lib.hid (NO.out hn2)
        clear NO YES hn2 c0 c1 c2
        go_wp2
        go_ret
        exact ⟨by rw [E.out]; rfl, HB.out⟩
      | true =>
        have E := Lib.hid (YES.out hn2)
        clear NO YES hn2 c0 c1 c2
        go_wp2
        go_roundw
        case rel => exact ⟨k + 1, by go_num, hlt, E.out, HB.out⟩
        case measure => simp [intOf]; omega
    · obtain rfl : k = n := by omega
      go_wp2
      go_ret
      refine ⟨?_, HB.out⟩
      have e : aS3 F k = true := allB_yes HR.out
      rw [e]; rfl
theorem rall3_two (a1 a2 a3 b1 b2 b3 : Int) (g : Nat) (T : TypeId) (w : World) (h : Lok w g T #[.int .i64 a1, .int .i64 a2, .int .i64 a3, .int .i64 b1, .int .i64 b2, .int .i64 b3]) :
    Calls Try.prog 25 #[.slice (some ⟨g, 0, none⟩) 2 2] w fun e w' => e = .returned (.bool (s3 a1 a2 a3 && s3 b1 b2 b3)) ∧ Below w.heap.size w w' := by
  have q := rall3_any _ 2 2 _ w (rowK_ints (n := 2) (k := 3) [a1, a2, a3, b1, b2, b3] h rfl) (by omega)
  rw [show aS3 (rowOf 3 [a1, a2, a3, b1, b2, b3]) 2 = (s3 a1 a2 a3 && s3 b1 b2 b3) from by simp [aS3, allB, rowOf]] at q
  exact q
end Go.Proofs.Ytfghjfgdjlkooaa
