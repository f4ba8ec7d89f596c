/-
  Contracts of package mesh: isPlace, isPlaceOrNone, isShort, isTriangle, Is. (gen/MsA.py)
-/
import Derived.Test.YtkheomaihhcokaaMsPl
import Derived.Test.YtkheomaihhcokaaGaB
import Derived.Test.YtkheomaihhcokaaMx3
namespace Go.Proofs.Ytkheomaihhcokaa
open Go.RowKit

set_option maxRecDepth 100000 in
set_option maxHeartbeats 4000000 in
theorem place_any (p m : Int) (w : World) :
    Calls Try.prog 62 #[.int .i64 p, .int .i64 m] w fun e' w' => e' = .returned (.bool (plB p m)) ∧ Below w.heap.size w w' := by
  have HB := Lib.hid (Below.refl w.heap.size w)
  by_cases h : 0 ≤ p
  · rw [plB_ge h]
    go_enter Try.func62, Try.ntmps62
    go_wp2
    go_ret
    exact ⟨rfl, HB.out⟩
  · rw [plB_no h]
    go_enter Try.func62, Try.ntmps62
    go_wp2
    go_ret
    exact ⟨rfl, HB.out⟩
set_option maxRecDepth 100000 in
set_option maxHeartbeats 4000000 in
theorem placeN_any (p m : Int) (hm : 0 ≤ m) (w : World) :
    Calls Try.prog 63 #[.int .i64 p, .int .i64 m] w fun e' w' => e' = .returned (.bool (pnB p m)) ∧ Below w.heap.size w w' := by
  have HB := Lib.hid (Below.refl w.heap.size w)
  have C := Lib.hid (fun W => place_any p m W)
  by_cases h : p = -1
  · rw [pnB_none h hm]
    have h2 : (p == -1) = true := by rw [beq_iff_eq]; exact h
    clear C h
    go_enter Try.func63, Try.ntmps63
    go_wp2
    go_ret
    exact ⟨rfl, HB.out⟩
  · rw [pnB_other h]
    have h2 : (p == -1) = false := by rw [beq_eq_false_iff_ne]; exact h
    go_enter Try.func63, Try.ntmps63
    go_wp2_with fail
    (((with_reducible refine (C.out _).mono ?_); rintro e w1 ⟨rfl, hb1⟩); replace HB := Lib.hid (HB.out.trans (hb1.mono HB.out.size)); clear hb1)
    go_wp2
    go_ret
    exact ⟨rfl, HB.out⟩
set_option maxRecDepth 100000 in
set_option maxHeartbeats 4000000 in
theorem short_any (a1 a2 a3 a4 : Option Addr) (n1 n2 n3 n4 c1 c2 c3 c4 : Nat) (w : World) :
    Calls Try.prog 42 #[.agg #[.slice a1 n1 c1, .slice a2 n2 c2, .slice a3 n3 c3, .slice a4 n4 c4]] w fun e' w' => e' = .returned (.bool (shB n1 n2 n3 n4)) ∧ Below w.heap.size w w' := by
  have HB := Lib.hid (Below.refl w.heap.size w)
  unfold shB
  have e : decide (n1 ≤ 2000 ∧ n2 ≤ 2000 ∧ n3 ≤ 2000) = decide (max (max (n1 : Int) n2) n3 ≤ 2000) := decide_eq_decide.2 (by omega)
  rw [e]
  clear e
  obtain ⟨z, hz⟩ : ∃ z, z = max (max (n1 : Int) n2) n3 := ⟨_, rfl⟩
  have Z := Lib.hid hz
  rw [← hz]
  by_cases h : z ≤ 2000
  · rw [decide_eq_true h, Bool.true_and]
    rw [hz] at h
    clear hz
    have E : Hid (decide (n4 ≤ 500) = decide ((n4 : Int) ≤ 500)) := Lib.hid (decide_eq_decide.2 (by omega))
    rw [E.out]
    go_enter Try.func42, Try.ntmps42
    go_upto_region 1 with fail
    have hbm := below_new1 w (.cells #[.slice a1 n1 c1, .slice a2 n2 c2, .slice a3 n3 c3, .slice a4 n4 c4] 26)
    have zm : (w.alloc (.cells #[.slice a1 n1 c1, .slice a2 n2 c2, .slice a3 n3 c3, .slice a4 n4 c4] 26)).heap.size = w.heap.size + 1 := by simp
    have HB := Lib.hid hbm
    have km := Lib.hid (Lok.new w 26 #[.slice a1 n1 c1, .slice a2 n2 c2, .slice a3 n3 c3, .slice a4 n4 c4])
    clear hbm
    generalize w.alloc (.cells #[.slice a1 n1 c1, .slice a2 n2 c2, .slice a3 n3 c3, .slice a4 n4 c4] 26) = Vm at *
    clear zm
    have m0 := km.out.cell (i := 0) rfl
    have m1 := km.out.cell (i := 1) rfl
    have m2 := km.out.cell (i := 2) rfl
    have m3 := km.out.cell (i := 3) rfl
    go_wp2
    go_ret
    exact ⟨by simp, HB.out⟩
  · rw [decide_eq_false h, Bool.false_and]
    rw [hz] at h
    clear hz
    go_enter Try.func42, Try.ntmps42
    go_upto_region 1 with fail
    have hbm := below_new1 w (.cells #[.slice a1 n1 c1, .slice a2 n2 c2, .slice a3 n3 c3, .slice a4 n4 c4] 26)
    have zm : (w.alloc (.cells #[.slice a1 n1 c1, .slice a2 n2 c2, .slice a3 n3 c3, .slice a4 n4 c4] 26)).heap.size = w.heap.size + 1 := by simp
    have HB := Lib.hid hbm
    have km := Lib.hid (Lok.new w 26 #[.slice a1 n1 c1, .slice a2 n2 c2, .slice a3 n3 c3, .slice a4 n4 c4])
    clear hbm
    generalize w.alloc (.cells #[.slice a1 n1 c1, .slice a2 n2 c2, .slice a3 n3 c3, .slice a4 n4 c4] 26) = Vm at *
    clear zm
    have m0 := km.out.cell (i := 0) rfl
    have m1 := km.out.cell (i := 1) rfl
    have m2 := km.out.cell (i := 2) rfl
    have m3 := km.out.cell (i := 3) rfl
    go_wp2
    go_ret
    exact ⟨rfl, HB.out⟩
/-- Nine numbers by their places. -/
def f9 (x0 x1 x2 x3 x4 x5 x6 x7 x8 : Int) : Nat → Int := fun j => if j = 0 then x0 else if j = 1 then x1 else if j = 2 then x2 else if j = 3 then x3 else if j = 4 then x4 else if j = 5 then x5 else if j = 6 then x6 else if j = 7 then x7 else x8
theorem trB_9 (n1 n2 n3 : Nat) (x0 x1 x2 x3 x4 x5 x6 x7 x8 : Int) : trB n1 n2 n3 (f9 x0 x1 x2 x3 x4 x5 x6 x7 x8) = (cnB n1 n2 n3 x0 x1 x2 x1 x2 && (cnB n1 n2 n3 x3 x4 x5 x1 x2 && cnB n1 n2 n3 x6 x7 x8 x1 x2)) := by
  show (((true && _) && _) && _) = _
  rw [Bool.true_and, Bool.and_assoc]
  rfl
set_option maxRecDepth 100000 in
set_option maxHeartbeats 16000000 in
theorem triangle_any (a1 a2 a3 a4 : Option Addr) (n1 n2 n3 n4 c1 c2 c3 c4 : Nat) (x0 x1 x2 x3 x4 x5 x6 x7 x8 : Int) (w : World) :
    Calls Try.prog 45 #[.agg #[.slice a1 n1 c1, .slice a2 n2 c2, .slice a3 n3 c3, .slice a4 n4 c4], .agg #[.int .i64 x0, .int .i64 x1, .int .i64 x2, .int .i64 x3, .int .i64 x4, .int .i64 x5, .int .i64 x6, .int .i64 x7, .int .i64 x8]] w fun e' w' => e' = .returned (.bool (trB n1 n2 n3 (f9 x0 x1 x2 x3 x4 x5 x6 x7 x8))) ∧ Below w.heap.size w w' := by
  have HB := Lib.hid (Below.refl w.heap.size w)
  have P1 := Lib.hid (fun p W => place_any p n1 W)
  have P2 := Lib.hid (fun p W => placeN_any p n2 (by omega) W)
  have P3 := Lib.hid (fun p W => placeN_any p n3 (by omega) W)
  rw [trB_9]
  obtain ⟨z, hz⟩ : ∃ z, z = (cnB n1 n2 n3 x0 x1 x2 x1 x2 && (cnB n1 n2 n3 x3 x4 x5 x1 x2 && cnB n1 n2 n3 x6 x7 x8 x1 x2)) := ⟨_, rfl⟩
  rw [← hz]
  have HZ := Lib.hid hz
  clear hz
  go_enter Try.func45, Try.ntmps45
  go_upto_region 1 with fail
  have hbm := below_new1 w (.cells #[.slice a1 n1 c1, .slice a2 n2 c2, .slice a3 n3 c3, .slice a4 n4 c4] 26)
  have zm : (w.alloc (.cells #[.slice a1 n1 c1, .slice a2 n2 c2, .slice a3 n3 c3, .slice a4 n4 c4] 26)).heap.size = w.heap.size + 1 := by simp
  have HB := Lib.hid hbm
  have km := Lib.hid (Lok.new w 26 #[.slice a1 n1 c1, .slice a2 n2 c2, .slice a3 n3 c3, .slice a4 n4 c4])
  clear hbm
  generalize w.alloc (.cells #[.slice a1 n1 c1, .slice a2 n2 c2, .slice a3 n3 c3, .slice a4 n4 c4] 26) = Vm at *
  have hbt := below_new1 Vm (.cells #[.int .i64 x0, .int .i64 x1, .int .i64 x2, .int .i64 x3, .int .i64 x4, .int .i64 x5, .int .i64 x6, .int .i64 x7, .int .i64 x8] 51)
  replace km := Lib.hid (km.out.keep hbt)
  have zt : (Vm.alloc (.cells #[.int .i64 x0, .int .i64 x1, .int .i64 x2, .int .i64 x3, .int .i64 x4, .int .i64 x5, .int .i64 x6, .int .i64 x7, .int .i64 x8] 51)).heap.size = Vm.heap.size + 1 := by simp
  replace HB := Lib.hid (HB.out.trans (hbt.mono HB.out.size))
  have kt := Lib.hid (Lok.new Vm 51 #[.int .i64 x0, .int .i64 x1, .int .i64 x2, .int .i64 x3, .int .i64 x4, .int .i64 x5, .int .i64 x6, .int .i64 x7, .int .i64 x8])
  clear hbt
  generalize Vm.alloc (.cells #[.int .i64 x0, .int .i64 x1, .int .i64 x2, .int .i64 x3, .int .i64 x4, .int .i64 x5, .int .i64 x6, .int .i64 x7, .int .i64 x8] 51) = Vt at *
  rw [zm] at kt
  clear zm zt
  have t0 := kt.out.cell (i := 0) rfl
  have t1 := kt.out.cell (i := 1) rfl
  have t2 := kt.out.cell (i := 2) rfl
  have t3 := kt.out.cell (i := 3) rfl
  have t4 := kt.out.cell (i := 4) rfl
  have t5 := kt.out.cell (i := 5) rfl
  have t6 := kt.out.cell (i := 6) rfl
  have t7 := kt.out.cell (i := 7) rfl
  have t8 := kt.out.cell (i := 8) rfl
  go_wp2_with fail
  clear t0 t1 t2 t3 t4 t5 t6 t7 t8
  have HB0 := HB
  have km0 := km
  have kt0 := kt
  clear HB km kt
  go_loopw [8] (fun x wr => ∃ k : Nat, x = .int .i64 k ∧ k ≤ 3 ∧ (0 < k → cnB n1 n2 n3 x0 x1 x2 x1 x2 = true) ∧ (1 < k → cnB n1 n2 n3 x3 x4 x5 x1 x2 = true) ∧ (2 < k → cnB n1 n2 n3 x6 x7 x8 x1 x2 = true) ∧ Below Vt.heap.size Vt wr) (fun x _ => 3 - (intOf x).toNat)
  case atStart => exact ⟨0, rfl, by omega, fun h => absurd h (by omega), fun h => absurd h (by omega), fun h => absurd h (by omega), Below.refl _ _⟩
  case round =>
    obtain ⟨k, rfl, hk, A0, A1, A2, hB⟩ := hrel
    have A := Lib.hid (And.intro A0 (And.intro A1 A2))
    clear A0 A1 A2
    have HB := Lib.hid (HB0.out.trans (hB.mono HB0.out.size))
    have km := Lib.hid (km0.out.keep hB)
    have kt := Lib.hid (kt0.out.keep hB)
    have B0 := Lib.hid hB
    clear hB
    rcases (show k = 0 ∨ k = 1 ∨ k = 2 ∨ k = 3 by omega) with rfl | rfl | rfl | rfl
    · skip
      have ix : ∀ W, (Instr.index 51 (.agg #[.int .i64 x0, .int .i64 x1, .int .i64 x2, .int .i64 x3, .int .i64 x4, .int .i64 x5, .int .i64 x6, .int .i64 x7, .int .i64 x8]) (.int .i64 0)).run Try.prog W = .ok (.agg #[.int .i64 x0, .int .i64 x1, .int .i64 x2]) W := fun _ => by kernel_rfl
      go_upto_region 4 with fail
      have BW := Lib.hid (B0.out.trans ((below_new1 wr (.cells #[.int .i64 x0, .int .i64 x1, .int .i64 x2] 50)).mono B0.out.size))
      have hbp := below_new1 wr (.cells #[.int .i64 x0, .int .i64 x1, .int .i64 x2] 50)
      replace km := Lib.hid (km.out.keep hbp)
      replace kt := Lib.hid (kt.out.keep hbp)
      have zp : (wr.alloc (.cells #[.int .i64 x0, .int .i64 x1, .int .i64 x2] 50)).heap.size = wr.heap.size + 1 := by simp
      replace HB := Lib.hid (HB.out.trans (hbp.mono HB.out.size))
      have kp := Lib.hid (Lok.new wr 50 #[.int .i64 x0, .int .i64 x1, .int .i64 x2])
      clear hbp
      generalize wr.alloc (.cells #[.int .i64 x0, .int .i64 x1, .int .i64 x2] 50) = Vp at *
      clear zp ix
      have p0 := kp.out.cell (i := 0) rfl
      have p1 := kp.out.cell (i := 1) rfl
      have p2 := kp.out.cell (i := 2) rfl
      have m0 := km.out.cell (i := 0) rfl
      have m1 := km.out.cell (i := 1) rfl
      have m2 := km.out.cell (i := 2) rfl
      have m3 := km.out.cell (i := 3) rfl
      go_wp2_with fail
      ((with_reducible refine (P1.out _ _).mono ?_); rintro e w1 ⟨rfl, hb1⟩)
      replace HB := Lib.hid (HB.out.trans (hb1.mono HB.out.size))
      replace BW := Lib.hid (BW.out.trans (hb1.mono BW.out.size))
      replace km := Lib.hid (km.out.keep hb1)
      replace kt := Lib.hid (kt.out.keep hb1)
      replace kp := Lib.hid (kp.out.keep hb1)
      clear hb1
      clear p0 p1 p2 m0 m1 m2 m3
      cases q1 : plB x0 n1 with
      | false =>
        have E : Hid (z = false) := by
          refine Lib.hid ?_
          rw [HZ.out]
          have q : cnB n1 n2 n3 x0 x1 x2 x1 x2 = false := by
              cases e : cnB n1 n2 n3 x0 x1 x2 x1 x2 with
              | false => rfl
              | true =>
                have y := plB_iff.2 (cnB_iff.1 e).1
                rw [q1] at y; cases y
          rw [q]; simp
        clear HZ A
        go_wp2
        go_ret
        exact ⟨by rw [E.out]; rfl, HB.out⟩
      | true =>
        have p0 := kp.out.cell (i := 0) rfl
        have p1 := kp.out.cell (i := 1) rfl
        have p2 := kp.out.cell (i := 2) rfl
        have m0 := km.out.cell (i := 0) rfl
        have m1 := km.out.cell (i := 1) rfl
        have m2 := km.out.cell (i := 2) rfl
        have m3 := km.out.cell (i := 3) rfl
        go_wp2_with fail
        ((with_reducible refine (P2.out _ _).mono ?_); rintro e w2 ⟨rfl, hb2⟩)
        replace HB := Lib.hid (HB.out.trans (hb2.mono HB.out.size))
        replace BW := Lib.hid (BW.out.trans (hb2.mono BW.out.size))
        replace km := Lib.hid (km.out.keep hb2)
        replace kt := Lib.hid (kt.out.keep hb2)
        replace kp := Lib.hid (kp.out.keep hb2)
        clear hb2
        clear p0 p1 p2 m0 m1 m2 m3
        cases q2 : pnB x1 n2 with
        | false =>
          have E : Hid (z = false) := by
            refine Lib.hid ?_
            rw [HZ.out]
            have q : cnB n1 n2 n3 x0 x1 x2 x1 x2 = false := by
                cases e : cnB n1 n2 n3 x0 x1 x2 x1 x2 with
                | false => rfl
                | true =>
                  have y := pnB_iff.2 (cnB_iff.1 e).2.1
                  rw [q2] at y; cases y
            rw [q]; simp
          clear HZ A
          go_wp2
          go_ret
          exact ⟨by rw [E.out]; rfl, HB.out⟩
        | true =>
          have p0 := kp.out.cell (i := 0) rfl
          have p1 := kp.out.cell (i := 1) rfl
          have p2 := kp.out.cell (i := 2) rfl
          have m0 := km.out.cell (i := 0) rfl
          have m1 := km.out.cell (i := 1) rfl
          have m2 := km.out.cell (i := 2) rfl
          have m3 := km.out.cell (i := 3) rfl
          go_wp2_with fail
          ((with_reducible refine (P3.out _ _).mono ?_); rintro e w3 ⟨rfl, hb3⟩)
          replace HB := Lib.hid (HB.out.trans (hb3.mono HB.out.size))
          replace BW := Lib.hid (BW.out.trans (hb3.mono BW.out.size))
          replace km := Lib.hid (km.out.keep hb3)
          replace kt := Lib.hid (kt.out.keep hb3)
          replace kp := Lib.hid (kp.out.keep hb3)
          clear hb3
          clear p0 p1 p2 m0 m1 m2 m3
          cases q3 : pnB x2 n3 with
          | false =>
            have E : Hid (z = false) := by
              refine Lib.hid ?_
              rw [HZ.out]
              have q : cnB n1 n2 n3 x0 x1 x2 x1 x2 = false := by
                  cases e : cnB n1 n2 n3 x0 x1 x2 x1 x2 with
                  | false => rfl
                  | true =>
                    have y := pnB_iff.2 (cnB_iff.1 e).2.2.1
                    rw [q3] at y; cases y
              rw [q]; simp
            clear HZ A
            go_wp2
            go_ret
            exact ⟨by rw [E.out]; rfl, HB.out⟩
          | true =>
            have p0 := kp.out.cell (i := 0) rfl
            have p1 := kp.out.cell (i := 1) rfl
            have p2 := kp.out.cell (i := 2) rfl
            have m0 := km.out.cell (i := 0) rfl
            have m1 := km.out.cell (i := 1) rfl
            have m2 := km.out.cell (i := 2) rfl
            have m3 := km.out.cell (i := 3) rfl
            have t1 := kt.out.cell (i := 1) rfl
            have t2 := kt.out.cell (i := 2) rfl
            have q4 : ((x1 == -1) == (x1 == -1)) = true := beq_self_eq_true _
            have q5 : ((x2 == -1) == (x2 == -1)) = true := beq_self_eq_true _
            have Y : Hid (cnB n1 n2 n3 x0 x1 x2 x1 x2 = true) := Lib.hid (by unfold cnB; rw [q1, q2, q3, q4, q5]; rfl)
            clear q1 q2 q3 q4 q5
            go_wp2
            go_roundw
            case rel => exact ⟨1, by go_num, by omega, fun _ => Y.out, fun h => absurd h (by omega), fun h => absurd h (by omega), BW.out⟩
            case measure => simp [intOf]
    · skip
      have ix : ∀ W, (Instr.index 51 (.agg #[.int .i64 x0, .int .i64 x1, .int .i64 x2, .int .i64 x3, .int .i64 x4, .int .i64 x5, .int .i64 x6, .int .i64 x7, .int .i64 x8]) (.int .i64 1)).run Try.prog W = .ok (.agg #[.int .i64 x3, .int .i64 x4, .int .i64 x5]) W := fun _ => by kernel_rfl
      go_upto_region 4 with fail
      have BW := Lib.hid (B0.out.trans ((below_new1 wr (.cells #[.int .i64 x3, .int .i64 x4, .int .i64 x5] 50)).mono B0.out.size))
      have hbp := below_new1 wr (.cells #[.int .i64 x3, .int .i64 x4, .int .i64 x5] 50)
      replace km := Lib.hid (km.out.keep hbp)
      replace kt := Lib.hid (kt.out.keep hbp)
      have zp : (wr.alloc (.cells #[.int .i64 x3, .int .i64 x4, .int .i64 x5] 50)).heap.size = wr.heap.size + 1 := by simp
      replace HB := Lib.hid (HB.out.trans (hbp.mono HB.out.size))
      have kp := Lib.hid (Lok.new wr 50 #[.int .i64 x3, .int .i64 x4, .int .i64 x5])
      clear hbp
      generalize wr.alloc (.cells #[.int .i64 x3, .int .i64 x4, .int .i64 x5] 50) = Vp at *
      clear zp ix
      have p0 := kp.out.cell (i := 0) rfl
      have p1 := kp.out.cell (i := 1) rfl
      have p2 := kp.out.cell (i := 2) rfl
      have m0 := km.out.cell (i := 0) rfl
      have m1 := km.out.cell (i := 1) rfl
      have m2 := km.out.cell (i := 2) rfl
      have m3 := km.out.cell (i := 3) rfl
      go_wp2_with fail
      ((with_reducible refine (P1.out _ _).mono ?_); rintro e w1 ⟨rfl, hb1⟩)
      replace HB := Lib.hid (HB.out.trans (hb1.mono HB.out.size))
      replace BW := Lib.hid (BW.out.trans (hb1.mono BW.out.size))
      replace km := Lib.hid (km.out.keep hb1)
      replace kt := Lib.hid (kt.out.keep hb1)
      replace kp := Lib.hid (kp.out.keep hb1)
      clear hb1
      clear p0 p1 p2 m0 m1 m2 m3
      cases q1 : plB x3 n1 with
      | false =>
        have E : Hid (z = false) := by
          refine Lib.hid ?_
          rw [HZ.out]
          have q : cnB n1 n2 n3 x3 x4 x5 x1 x2 = false := by
              cases e : cnB n1 n2 n3 x3 x4 x5 x1 x2 with
              | false => rfl
              | true =>
                have y := plB_iff.2 (cnB_iff.1 e).1
                rw [q1] at y; cases y
          rw [q]; simp
        clear HZ A
        go_wp2
        go_ret
        exact ⟨by rw [E.out]; rfl, HB.out⟩
      | true =>
        have p0 := kp.out.cell (i := 0) rfl
        have p1 := kp.out.cell (i := 1) rfl
        have p2 := kp.out.cell (i := 2) rfl
        have m0 := km.out.cell (i := 0) rfl
        have m1 := km.out.cell (i := 1) rfl
        have m2 := km.out.cell (i := 2) rfl
        have m3 := km.out.cell (i := 3) rfl
        go_wp2_with fail
        ((with_reducible refine (P2.out _ _).mono ?_); rintro e w2 ⟨rfl, hb2⟩)
        replace HB := Lib.hid (HB.out.trans (hb2.mono HB.out.size))
        replace BW := Lib.hid (BW.out.trans (hb2.mono BW.out.size))
        replace km := Lib.hid (km.out.keep hb2)
        replace kt := Lib.hid (kt.out.keep hb2)
        replace kp := Lib.hid (kp.out.keep hb2)
        clear hb2
        clear p0 p1 p2 m0 m1 m2 m3
        cases q2 : pnB x4 n2 with
        | false =>
          have E : Hid (z = false) := by
            refine Lib.hid ?_
            rw [HZ.out]
            have q : cnB n1 n2 n3 x3 x4 x5 x1 x2 = false := by
                cases e : cnB n1 n2 n3 x3 x4 x5 x1 x2 with
                | false => rfl
                | true =>
                  have y := pnB_iff.2 (cnB_iff.1 e).2.1
                  rw [q2] at y; cases y
            rw [q]; simp
          clear HZ A
          go_wp2
          go_ret
          exact ⟨by rw [E.out]; rfl, HB.out⟩
        | true =>
          have p0 := kp.out.cell (i := 0) rfl
          have p1 := kp.out.cell (i := 1) rfl
          have p2 := kp.out.cell (i := 2) rfl
          have m0 := km.out.cell (i := 0) rfl
          have m1 := km.out.cell (i := 1) rfl
          have m2 := km.out.cell (i := 2) rfl
          have m3 := km.out.cell (i := 3) rfl
          go_wp2_with fail
          ((with_reducible refine (P3.out _ _).mono ?_); rintro e w3 ⟨rfl, hb3⟩)
          replace HB := Lib.hid (HB.out.trans (hb3.mono HB.out.size))
          replace BW := Lib.hid (BW.out.trans (hb3.mono BW.out.size))
          replace km := Lib.hid (km.out.keep hb3)
          replace kt := Lib.hid (kt.out.keep hb3)
          replace kp := Lib.hid (kp.out.keep hb3)
          clear hb3
          clear p0 p1 p2 m0 m1 m2 m3
          cases q3 : pnB x5 n3 with
          | false =>
            have E : Hid (z = false) := by
              refine Lib.hid ?_
              rw [HZ.out]
              have q : cnB n1 n2 n3 x3 x4 x5 x1 x2 = false := by
                  cases e : cnB n1 n2 n3 x3 x4 x5 x1 x2 with
                  | false => rfl
                  | true =>
                    have y := pnB_iff.2 (cnB_iff.1 e).2.2.1
                    rw [q3] at y; cases y
              rw [q]; simp
            clear HZ A
            go_wp2
            go_ret
            exact ⟨by rw [E.out]; rfl, HB.out⟩
          | true =>
            have p0 := kp.out.cell (i := 0) rfl
            have p1 := kp.out.cell (i := 1) rfl
            have p2 := kp.out.cell (i := 2) rfl
            have m0 := km.out.cell (i := 0) rfl
            have m1 := km.out.cell (i := 1) rfl
            have m2 := km.out.cell (i := 2) rfl
            have m3 := km.out.cell (i := 3) rfl
            have t1 := kt.out.cell (i := 1) rfl
            have t2 := kt.out.cell (i := 2) rfl
            cases q4 : ((x4 == -1) == (x1 == -1)) with
            | false =>
              have d4 : ((x4 == -1) != (x1 == -1)) = true := by rw [bne, q4]; rfl
              have n4 : ¬ ((x4 == -1) = (x1 == -1)) := fun h => by rw [h, beq_self_eq_true] at q4; cases q4
              have E : Hid (z = false) := by
                refine Lib.hid ?_
                rw [HZ.out]
                have q : cnB n1 n2 n3 x3 x4 x5 x1 x2 = false := by
                    cases e : cnB n1 n2 n3 x3 x4 x5 x1 x2 with
                    | false => rfl
                    | true =>
                      have y := (cnB_iff.1 e).2.2.2.1
                      have y2 : ((x4 == -1) == (x1 == -1)) = true := beq_kind.2 y
                      rw [q4] at y2; cases y2
                rw [q]; simp
              clear HZ A
              go_wp2
              go_ret
              exact ⟨by rw [E.out]; rfl, HB.out⟩
            | true =>
              have e4 : (x4 == -1) = (x1 == -1) := beq_iff_eq.1 q4
              cases q5 : ((x5 == -1) == (x2 == -1)) with
              | false =>
                have d5 : ((x5 == -1) != (x2 == -1)) = true := by rw [bne, q5]; rfl
                have n5 : ¬ ((x5 == -1) = (x2 == -1)) := fun h => by rw [h, beq_self_eq_true] at q5; cases q5
                have E : Hid (z = false) := by
                  refine Lib.hid ?_
                  rw [HZ.out]
                  have q : cnB n1 n2 n3 x3 x4 x5 x1 x2 = false := by
                      cases e : cnB n1 n2 n3 x3 x4 x5 x1 x2 with
                      | false => rfl
                      | true =>
                        have y := (cnB_iff.1 e).2.2.2.2
                        have y2 : ((x5 == -1) == (x2 == -1)) = true := beq_kind.2 y
                        rw [q5] at y2; cases y2
                  rw [q]; simp
                clear HZ A
                go_wp2
                go_ret
                exact ⟨by rw [E.out]; rfl, HB.out⟩
              | true =>
                have e5 : (x5 == -1) = (x2 == -1) := beq_iff_eq.1 q5
                have Y : Hid (cnB n1 n2 n3 x3 x4 x5 x1 x2 = true) := Lib.hid (by unfold cnB; rw [q1, q2, q3, q4, q5]; rfl)
                clear q1 q2 q3 q4 q5
                go_wp2
                go_roundw
                case rel => exact ⟨2, by go_num, by omega, fun h => A.out.1 (by omega), fun _ => Y.out, fun h => absurd h (by omega), BW.out⟩
                case measure => simp [intOf]
    · skip
      have ix : ∀ W, (Instr.index 51 (.agg #[.int .i64 x0, .int .i64 x1, .int .i64 x2, .int .i64 x3, .int .i64 x4, .int .i64 x5, .int .i64 x6, .int .i64 x7, .int .i64 x8]) (.int .i64 2)).run Try.prog W = .ok (.agg #[.int .i64 x6, .int .i64 x7, .int .i64 x8]) W := fun _ => by kernel_rfl
      go_upto_region 4 with fail
      have BW := Lib.hid (B0.out.trans ((below_new1 wr (.cells #[.int .i64 x6, .int .i64 x7, .int .i64 x8] 50)).mono B0.out.size))
      have hbp := below_new1 wr (.cells #[.int .i64 x6, .int .i64 x7, .int .i64 x8] 50)
      replace km := Lib.hid (km.out.keep hbp)
      replace kt := Lib.hid (kt.out.keep hbp)
      have zp : (wr.alloc (.cells #[.int .i64 x6, .int .i64 x7, .int .i64 x8] 50)).heap.size = wr.heap.size + 1 := by simp
      replace HB := Lib.hid (HB.out.trans (hbp.mono HB.out.size))
      have kp := Lib.hid (Lok.new wr 50 #[.int .i64 x6, .int .i64 x7, .int .i64 x8])
      clear hbp
      generalize wr.alloc (.cells #[.int .i64 x6, .int .i64 x7, .int .i64 x8] 50) = Vp at *
      clear zp ix
      have p0 := kp.out.cell (i := 0) rfl
      have p1 := kp.out.cell (i := 1) rfl
      have p2 := kp.out.cell (i := 2) rfl
      have m0 := km.out.cell (i := 0) rfl
      have m1 := km.out.cell (i := 1) rfl
      have m2 := km.out.cell (i := 2) rfl
      have m3 := km.out.cell (i := 3) rfl
      go_wp2_with fail
      ((with_reducible refine (P1.out _ _).mono ?_); rintro e w1 ⟨rfl, hb1⟩)
      replace HB := Lib.hid (HB.out.trans (hb1.mono HB.out.size))
      replace BW := Lib.hid (BW.out.trans (hb1.mono BW.out.size))
      replace km := Lib.hid (km.out.keep hb1)
      replace kt := Lib.hid (kt.out.keep hb1)
      replace kp := Lib.hid (kp.out.keep hb1)
      clear hb1
      clear p0 p1 p2 m0 m1 m2 m3
      cases q1 : plB x6 n1 with
      | false =>
        have E : Hid (z = false) := by
          refine Lib.hid ?_
          rw [HZ.out]
          have q : cnB n1 n2 n3 x6 x7 x8 x1 x2 = false := by
              cases e : cnB n1 n2 n3 x6 x7 x8 x1 x2 with
              | false => rfl
              | true =>
                have y := plB_iff.2 (cnB_iff.1 e).1
                rw [q1] at y; cases y
          rw [q]; simp
        clear HZ A
        go_wp2
        go_ret
        exact ⟨by rw [E.out]; rfl, HB.out⟩
      | true =>
        have p0 := kp.out.cell (i := 0) rfl
        have p1 := kp.out.cell (i := 1) rfl
        have p2 := kp.out.cell (i := 2) rfl
        have m0 := km.out.cell (i := 0) rfl
        have m1 := km.out.cell (i := 1) rfl
        have m2 := km.out.cell (i := 2) rfl
        have m3 := km.out.cell (i := 3) rfl
        go_wp2_with fail
        ((with_reducible refine (P2.out _ _).mono ?_); rintro e w2 ⟨rfl, hb2⟩)
        replace HB := Lib.hid (HB.out.trans (hb2.mono HB.out.size))
        replace BW := Lib.hid (BW.out.trans (hb2.mono BW.out.size))
        replace km := Lib.hid (km.out.keep hb2)
        replace kt := Lib.hid (kt.out.keep hb2)
        replace kp := Lib.hid (kp.out.keep hb2)
        clear hb2
        clear p0 p1 p2 m0 m1 m2 m3
        cases q2 : pnB x7 n2 with
        | false =>
          have E : Hid (z = false) := by
            refine Lib.hid ?_
            rw [HZ.out]
            have q : cnB n1 n2 n3 x6 x7 x8 x1 x2 = false := by
                cases e : cnB n1 n2 n3 x6 x7 x8 x1 x2 with
                | false => rfl
                | true =>
                  have y := pnB_iff.2 (cnB_iff.1 e).2.1
                  rw [q2] at y; cases y
            rw [q]; simp
          clear HZ A
          go_wp2
          go_ret
          exact ⟨by rw [E.out]; rfl, HB.out⟩
        | true =>
          have p0 := kp.out.cell (i := 0) rfl
          have p1 := kp.out.cell (i := 1) rfl
          have p2 := kp.out.cell (i := 2) rfl
          have m0 := km.out.cell (i := 0) rfl
          have m1 := km.out.cell (i := 1) rfl
          have m2 := km.out.cell (i := 2) rfl
          have m3 := km.out.cell (i := 3) rfl
          go_wp2_with fail
          ((with_reducible refine (P3.out _ _).mono ?_); rintro e w3 ⟨rfl, hb3⟩)
          replace HB := Lib.hid (HB.out.trans (hb3.mono HB.out.size))
          replace BW := Lib.hid (BW.out.trans (hb3.mono BW.out.size))
          replace km := Lib.hid (km.out.keep hb3)
          replace kt := Lib.hid (kt.out.keep hb3)
          replace kp := Lib.hid (kp.out.keep hb3)
          clear hb3
          clear p0 p1 p2 m0 m1 m2 m3
          cases q3 : pnB x8 n3 with
          | false =>
            have E : Hid (z = false) := by
              refine Lib.hid ?_
              rw [HZ.out]
              have q : cnB n1 n2 n3 x6 x7 x8 x1 x2 = false := by
                  cases e : cnB n1 n2 n3 x6 x7 x8 x1 x2 with
                  | false => rfl
                  | true =>
                    have y := pnB_iff.2 (cnB_iff.1 e).2.2.1
                    rw [q3] at y; cases y
              rw [q]; simp
            clear HZ A
            go_wp2
            go_ret
            exact ⟨by rw [E.out]; rfl, HB.out⟩
          | true =>
            have p0 := kp.out.cell (i := 0) rfl
            have p1 := kp.out.cell (i := 1) rfl
            have p2 := kp.out.cell (i := 2) rfl
            have m0 := km.out.cell (i := 0) rfl
            have m1 := km.out.cell (i := 1) rfl
            have m2 := km.out.cell (i := 2) rfl
            have m3 := km.out.cell (i := 3) rfl
            have t1 := kt.out.cell (i := 1) rfl
            have t2 := kt.out.cell (i := 2) rfl
            cases q4 : ((x7 == -1) == (x1 == -1)) with
            | false =>
              have d4 : ((x7 == -1) != (x1 == -1)) = true := by rw [bne, q4]; rfl
              have n4 : ¬ ((x7 == -1) = (x1 == -1)) := fun h => by rw [h, beq_self_eq_true] at q4; cases q4
              have E : Hid (z = false) := by
                refine Lib.hid ?_
                rw [HZ.out]
                have q : cnB n1 n2 n3 x6 x7 x8 x1 x2 = false := by
                    cases e : cnB n1 n2 n3 x6 x7 x8 x1 x2 with
                    | false => rfl
                    | true =>
                      have y := (cnB_iff.1 e).2.2.2.1
                      have y2 : ((x7 == -1) == (x1 == -1)) = true := beq_kind.2 y
                      rw [q4] at y2; cases y2
                rw [q]; simp
              clear HZ A
              go_wp2
              go_ret
              exact ⟨by rw [E.out]; rfl, HB.out⟩
            | true =>
              have e4 : (x7 == -1) = (x1 == -1) := beq_iff_eq.1 q4
              cases q5 : ((x8 == -1) == (x2 == -1)) with
              | false =>
                have d5 : ((x8 == -1) != (x2 == -1)) = true := by rw [bne, q5]; rfl
                have n5 : ¬ ((x8 == -1) = (x2 == -1)) := fun h => by rw [h, beq_self_eq_true] at q5; cases q5
                have E : Hid (z = false) := by
                  refine Lib.hid ?_
                  rw [HZ.out]
                  have q : cnB n1 n2 n3 x6 x7 x8 x1 x2 = false := by
                      cases e : cnB n1 n2 n3 x6 x7 x8 x1 x2 with
                      | false => rfl
                      | true =>
                        have y := (cnB_iff.1 e).2.2.2.2
                        have y2 : ((x8 == -1) == (x2 == -1)) = true := beq_kind.2 y
                        rw [q5] at y2; cases y2
                  rw [q]; simp
                clear HZ A
                go_wp2
                go_ret
                exact ⟨by rw [E.out]; rfl, HB.out⟩
              | true =>
                have e5 : (x8 == -1) = (x2 == -1) := beq_iff_eq.1 q5
                have Y : Hid (cnB n1 n2 n3 x6 x7 x8 x1 x2 = true) := Lib.hid (by unfold cnB; rw [q1, q2, q3, q4, q5]; rfl)
                clear q1 q2 q3 q4 q5
                go_wp2
                go_roundw
                case rel => exact ⟨3, by go_num, by omega, fun h => A.out.1 (by omega), fun h => A.out.2.1 (by omega), fun _ => Y.out, BW.out⟩
                case measure => simp [intOf]
    · have E : Hid (z = true) := Lib.hid (by rw [HZ.out, A.out.1 (by omega), A.out.2.1 (by omega), A.out.2.2 (by omega)]; rfl)
      go_wp2
      go_ret
      exact ⟨by rw [E.out]; rfl, HB.out⟩
end Go.Proofs.Ytkheomaihhcokaa
