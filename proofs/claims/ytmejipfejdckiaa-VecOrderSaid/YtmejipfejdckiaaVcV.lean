/-
  The law VecOrder: its walk.
-/
import Derived.Test.YtmejipfejdckiaaVcEq
namespace Go.Proofs.Ytmejipfejdckiaa
open Go.RowKit

/-- The farthest of the first k. -/
theorem axF_most (a b c : Int) (k : Nat) : ∀ i, i < k → bl (pt a b c (axF a b c k)) ≤ bl (pt a b c i) ∧ (i < axF a b c k → bl (pt a b c (axF a b c k)) < bl (pt a b c i)) := by
  induction k with
  | zero => intro i h; omega
  | succ k ih =>
    intro i hi
    have z := axF_lt a b c k
    by_cases s : bl (pt a b c k) < bl (pt a b c (axF a b c k))
    · rw [axF_take s]
      by_cases e : i = k
      · subst e; exact ⟨Int.le_refl _, fun h => absurd h (Nat.lt_irrefl _)⟩
      · have := ih i (by omega)
        exact ⟨by omega, fun _ => by omega⟩
    · rw [axF_keep s]
      by_cases e : i = k
      · subst e; exact ⟨by omega, fun h => by omega⟩
      · exact ih i (by omega)
theorem bl_sq {x y : Int} (h : bl y ≤ bl x) : x * x ≤ y * y := by
  unfold bl at h
  have k := Nat.mul_le_mul (show x.natAbs ≤ y.natAbs by omega) (show x.natAbs ≤ y.natAbs by omega)
  rw [← Int.natAbs_mul_self (a := x), ← Int.natAbs_mul_self (a := y)]
  exact Int.ofNat_le.2 k
theorem bl_sq_lt {x y : Int} (h : bl y < bl x) : x * x < y * y := by
  unfold bl at h
  have k := Nat.mul_self_lt_mul_self (show x.natAbs < y.natAbs by omega)
  rw [← Int.natAbs_mul_self (a := x), ← Int.natAbs_mul_self (a := y)]
  exact Int.ofNat_lt.2 k
def sqF (a b c : Int) (k : Nat) : Int := pt a b c k * pt a b c k
theorem sq_at (a b c : Int) {k : Nat} (h : k < 3) : (#[Value.int .i64 (a * a), Value.int .i64 (b * b), Value.int .i64 (c * c)] : Array Value)[k]? = some (.int .i64 (sqF a b c k)) := by
  rcases show k = 0 ∨ k = 1 ∨ k = 2 by omega with rfl | rfl | rfl <;> rfl
theorem sq_wrap {x : Int} (h : NR x) : IntKind.i64.wrap (x * x) = x * x := IntWalk.i64_in _ (by have := near_prod h h; omega)

set_option maxRecDepth 100000 in
set_option maxHeartbeats 8000000 in
theorem law_order_at (a1 a2 a3 b1 b2 b3 c1 c2 c3 : Int) (ab ba bc ac t : Bool) (m : Nat) (w : World)
    (L1 : Hid (∀ W, Calls Try.prog 22 #[.agg #[.int .i64 a1, .int .i64 a2, .int .i64 a3], .agg #[.int .i64 b1, .int .i64 b2, .int .i64 b3]] W fun e w' => e = .returned (.bool ab) ∧ Below W.heap.size W w'))
    (L2 : Hid (∀ W, Calls Try.prog 22 #[.agg #[.int .i64 b1, .int .i64 b2, .int .i64 b3], .agg #[.int .i64 a1, .int .i64 a2, .int .i64 a3]] W fun e w' => e = .returned (.bool ba) ∧ Below W.heap.size W w'))
    (L3 : Hid (∀ W, Calls Try.prog 22 #[.agg #[.int .i64 b1, .int .i64 b2, .int .i64 b3], .agg #[.int .i64 c1, .int .i64 c2, .int .i64 c3]] W fun e w' => e = .returned (.bool bc) ∧ Below W.heap.size W w'))
    (L4 : Hid (∀ W, Calls Try.prog 22 #[.agg #[.int .i64 a1, .int .i64 a2, .int .i64 a3], .agg #[.int .i64 c1, .int .i64 c2, .int .i64 c3]] W fun e w' => e = .returned (.bool ac) ∧ Below W.heap.size W w'))
    (I : Hid (∀ g T W, Lok W g T #[.int .i64 a1, .int .i64 a2, .int .i64 a3] → Calls Try.prog 27 #[.slice (some ⟨g, 0, none⟩) 1 1] W fun e w' => e = .returned (.bool t) ∧ Below W.heap.size W w'))
    (A : Hid (∀ W, Calls Try.prog 20 #[.agg #[.int .i64 a1, .int .i64 a2, .int .i64 a3]] W fun e w' => e = .returned (.int .i64 m) ∧ Below W.heap.size W w'))
    (HM : Hid (m < 3)) (HN : Hid (t = true → NR a1 ∧ NR a2 ∧ NR a3))
    (HQ : Hid (∀ i, i < 3 → sqF a1 a2 a3 i ≤ sqF a1 a2 a3 m ∧ (i < m → sqF a1 a2 a3 i < sqF a1 a2 a3 m)))
    (h : (ab = false ∧ ba = false ∧ q3 a1 a2 a3 b1 b2 b3 = true) ∨ (ab = false ∧ ba = true ∧ q3 a1 a2 a3 b1 b2 b3 = false) ∨ (ab = true ∧ ba = false ∧ q3 a1 a2 a3 b1 b2 b3 = false ∧ bc = false) ∨ (ab = true ∧ ba = false ∧ q3 a1 a2 a3 b1 b2 b3 = false ∧ bc = true ∧ ac = true)) :
    Calls Try.prog 7 #[.agg #[.int .i64 a1, .int .i64 a2, .int .i64 a3], .agg #[.int .i64 b1, .int .i64 b2, .int .i64 b3], .agg #[.int .i64 c1, .int .i64 c2, .int .i64 c3]] w fun e' w' => e' = .returned (.bool true) ∧ Below w.heap.size w w' := by
  rcases h with ⟨rfl, rfl, hq⟩ | ⟨rfl, rfl, hq⟩ | ⟨rfl, rfl, hq, rfl⟩ | ⟨rfl, rfl, hq, rfl, rfl⟩
  · go_enter Try.func7, Try.ntmps7
    go_upto_region 1 with fail
    have hbx := below_new1 w (.cells #[.int .i64 a1, .int .i64 a2, .int .i64 a3] 23)
    have zx : (w.alloc (.cells #[.int .i64 a1, .int .i64 a2, .int .i64 a3] 23)).heap.size = w.heap.size + 1 := by simp
    have HB := Lib.hid hbx
    have kx := Lib.hid (Lok.new w 23 #[.int .i64 a1, .int .i64 a2, .int .i64 a3])
    clear hbx
    generalize w.alloc (.cells #[.int .i64 a1, .int .i64 a2, .int .i64 a3] 23) = Vx at *
    have hby := below_new1 Vx (.cells #[.int .i64 b1, .int .i64 b2, .int .i64 b3] 23)
    replace kx := Lib.hid (kx.out.keep hby)
    have zy : (Vx.alloc (.cells #[.int .i64 b1, .int .i64 b2, .int .i64 b3] 23)).heap.size = Vx.heap.size + 1 := by simp
    replace HB := Lib.hid (HB.out.trans (hby.mono HB.out.size))
    have ky := Lib.hid (Lok.new Vx 23 #[.int .i64 b1, .int .i64 b2, .int .i64 b3])
    clear hby
    generalize Vx.alloc (.cells #[.int .i64 b1, .int .i64 b2, .int .i64 b3] 23) = Vy at *
    rw [zx] at ky zy
    have hbz := below_new1 Vy (.cells #[.int .i64 c1, .int .i64 c2, .int .i64 c3] 23)
    replace kx := Lib.hid (kx.out.keep hbz)
    replace ky := Lib.hid (ky.out.keep hbz)
    have zz : (Vy.alloc (.cells #[.int .i64 c1, .int .i64 c2, .int .i64 c3] 23)).heap.size = Vy.heap.size + 1 := by simp
    replace HB := Lib.hid (HB.out.trans (hbz.mono HB.out.size))
    have kz := Lib.hid (Lok.new Vy 23 #[.int .i64 c1, .int .i64 c2, .int .i64 c3])
    clear hbz
    generalize Vy.alloc (.cells #[.int .i64 c1, .int .i64 c2, .int .i64 c3] 23) = Vz at *
    rw [zy] at kz
    clear zx zy zz
    have x0 := kx.out.cell (i := 0) rfl
    have x1 := kx.out.cell (i := 1) rfl
    have x2 := kx.out.cell (i := 2) rfl
    have y0 := ky.out.cell (i := 0) rfl
    have y1 := ky.out.cell (i := 1) rfl
    have y2 := ky.out.cell (i := 2) rfl
    go_wp2_with fail
    clear x0 x1 x2 y0 y1 y2
    (((with_reducible refine (L1.out _).mono ?_); rintro e w1 ⟨rfl, hb1⟩); replace HB := Lib.hid (HB.out.trans (hb1.mono HB.out.size)); replace kx := Lib.hid (kx.out.keep hb1); replace ky := Lib.hid (ky.out.keep hb1); replace kz := Lib.hid (kz.out.keep hb1); clear hb1)
    have x0 := kx.out.cell (i := 0) rfl
    have x1 := kx.out.cell (i := 1) rfl
    have x2 := kx.out.cell (i := 2) rfl
    have y0 := ky.out.cell (i := 0) rfl
    have y1 := ky.out.cell (i := 1) rfl
    have y2 := ky.out.cell (i := 2) rfl
    go_wp2_with fail
    clear x0 x1 x2 y0 y1 y2
    (((with_reducible refine (L1.out _).mono ?_); rintro e w2 ⟨rfl, hb2⟩); replace HB := Lib.hid (HB.out.trans (hb2.mono HB.out.size)); replace kx := Lib.hid (kx.out.keep hb2); replace ky := Lib.hid (ky.out.keep hb2); replace kz := Lib.hid (kz.out.keep hb2); clear hb2)
    go_upto_region 3 with fail
    have a0 : ∀ d : Of (PastV w2), ∀ i v, (#[Value.int .i64 a1, Value.int .i64 a2, Value.int .i64 a3] : Array Value)[i]? = some v → d.world.cell? ⟨w.heap.size, i, none⟩ = some v := fun d i v h => (kx.out.keep d.holds).cell h
    have b0 : ∀ d : Of (PastV w2), ∀ i v, (#[Value.int .i64 b1, Value.int .i64 b2, Value.int .i64 b3] : Array Value)[i]? = some v → d.world.cell? ⟨w.heap.size + 1, i, none⟩ = some v := fun d i v h => (ky.out.keep d.holds).cell h
    have a00 := fun d => a0 d 0 _ rfl
    have a01 := fun d => a0 d 1 _ rfl
    have a02 := fun d => a0 d 2 _ rfl
    have b00 := fun d => b0 d 0 _ rfl
    have b01 := fun d => b0 d 1 _ rfl
    have b02 := fun d => b0 d 2 _ rfl
    clear a0 b0
    have ST := Lib.hid (pastV_stays w2)
    have ne : Nonempty (Of (PastV w2)) := ⟨⟨w2, Below.refl _ _⟩⟩
    refine wp_region_class (S := PastV w2) (by kernel_rfl) (by kernel_rfl) (Below.refl _ _).drew ?_
    repeat (go_big_quiet_step (first | (go_at_call 22; first | (with_reducible exact class_call ST.out _ (L1.out _)) | (with_reducible exact class_call ST.out _ (L2.out _)))))
    refine wpQuiet_nil ?_
    rintro _ ⟨d, rfl⟩
    replace HB := Lib.hid (HB.out.trans (show Below w.heap.size w2 d.world from (show Below w2.heap.size w2 d.world from d.holds).mono HB.out.size))
    replace kx := Lib.hid (kx.out.keep d.holds)
    generalize d.world = v5 at *
    clear a00 a01 a02 b00 b01 b02 ne ST ky kz
    have x0 := kx.out.cell (i := 0) rfl
    have x1 := kx.out.cell (i := 1) rfl
    have x2 := kx.out.cell (i := 2) rfl
    go_wp2_with fail
    clear x0 x1 x2
    (((with_reducible refine (A.out _).mono ?_); rintro e w6 ⟨rfl, hb6⟩); replace HB := Lib.hid (HB.out.trans (hb6.mono HB.out.size)); replace kx := Lib.hid (kx.out.keep hb6); clear hb6)
    have x0 := kx.out.cell (i := 0) rfl
    have x1 := kx.out.cell (i := 1) rfl
    have x2 := kx.out.cell (i := 2) rfl
    have m1 : decide ((m : Int) < 0) = false := decide_eq_false (by omega)
    have m2 : decide (2 < (m : Int)) = false := decide_eq_false (by have := HM.out; omega)
    have m3 : decide ((m : Int) ≤ 2) = true := decide_eq_true (by have := HM.out; omega)
    have m4 : decide (0 ≤ (m : Int)) = true := decide_eq_true (by omega)
    go_wp2_with fail
    clear x0 x1 x2
    have hbr := below_new1 w6 (.cells #[.int .i64 a1, .int .i64 a2, .int .i64 a3] 23)
    replace kx := Lib.hid (kx.out.keep hbr)
    have zr : (w6.alloc (.cells #[.int .i64 a1, .int .i64 a2, .int .i64 a3] 23)).heap.size = w6.heap.size + 1 := by simp
    replace HB := Lib.hid (HB.out.trans (hbr.mono HB.out.size))
    have kr := Lib.hid (Lok.new w6 23 #[.int .i64 a1, .int .i64 a2, .int .i64 a3])
    clear hbr
    generalize w6.alloc (.cells #[.int .i64 a1, .int .i64 a2, .int .i64 a3] 23) = Vr at *
    clear zr
    generalize w6.heap.size = gr at *
    (((with_reducible refine (I.out _ _ _ kr.out).mono ?_); rintro e w7 ⟨rfl, hb7⟩); replace HB := Lib.hid (HB.out.trans (hb7.mono HB.out.size)); replace kx := Lib.hid (kx.out.keep hb7); clear hb7)
    clear kr
    cases t with
    | false =>
      go_wp2_with fail
      (((with_reducible refine (crossed_any _).mono ?_); rintro e w8 ⟨rfl, hb8⟩); replace HB := Lib.hid (HB.out.trans (hb8.mono HB.out.size)); clear hb8)
      go_wp2
      go_ret
      exact ⟨rfl, HB.out⟩
    | true =>
      have nn := HN.out rfl
      have s1 := sq_wrap nn.1
      have s2 := sq_wrap nn.2.1
      have s3 := sq_wrap nn.2.2
      have x0 := kx.out.cell (i := 0) rfl
      have x1 := kx.out.cell (i := 1) rfl
      have x2 := kx.out.cell (i := 2) rfl
      clear nn
      go_upto_region 9 with fail
      clear x0 x1 x2 s1 s2 s3
      have hbp := below_new1 w7 (.cells #[.int .i64 (a1 * a1), .int .i64 (a2 * a2), .int .i64 (a3 * a3)] 3)
      have zp : (w7.alloc (.cells #[.int .i64 (a1 * a1), .int .i64 (a2 * a2), .int .i64 (a3 * a3)] 3)).heap.size = w7.heap.size + 1 := by simp
      replace HB := Lib.hid (HB.out.trans (hbp.mono HB.out.size))
      have kp := Lib.hid (Lok.new w7 3 #[.int .i64 (a1 * a1), .int .i64 (a2 * a2), .int .i64 (a3 * a3)])
      clear hbp
      generalize w7.alloc (.cells #[.int .i64 (a1 * a1), .int .i64 (a2 * a2), .int .i64 (a3 * a3)] 3) = Vp at *
      clear zp
      generalize w7.heap.size = gp at *
      go_wp2_with fail
      go_loopw [9] (fun x wr => ∃ k : Nat, x = .int .i64 k ∧ k ≤ 3 ∧ Below Vp.heap.size Vp wr) (fun x _ => 3 - (intOf x).toNat)
      case atStart => exact ⟨0, rfl, Nat.zero_le _, Below.refl _ _⟩
      case round =>
        obtain ⟨k, rfl, hk, hB⟩ := hrel
        have B := Lib.hid hB
        have kq := Lib.hid (kp.out.keep hB)
        clear hB
        by_cases hlt : k < 3
        · have c0 := kq.out.cell (sq_at a1 a2 a3 hlt)
          have c1 := kq.out.cell (sq_at a1 a2 a3 HM.out)
          have QL := HQ.out k hlt
          generalize sqF a1 a2 a3 k = x at *
          have ex : ∃ y, y = sqF a1 a2 a3 m := ⟨_, rfl⟩
          obtain ⟨y, hy⟩ := ex
          rw [← hy] at c1 QL
          clear hy
          have i0 : (0 : Int) ≤ (k : Int) := by omega
          have i1 : (k : Int) < 3 := by omega
          have i2 : ((k : Int)).toNat = k := by omega
          have j0 : (0 : Int) ≤ (m : Int) := by omega
          have j1 : (m : Int) < 3 := by have := HM.out; omega
          have j2 : ((m : Int)).toNat = m := by omega
          have d0 : ∀ d : Of (PastV wr), d.world.cell? ⟨gp, k, none⟩ = some (.int .i64 x) := fun d => keepc d.holds c0
          have d1 : ∀ d : Of (PastV wr), d.world.cell? ⟨gp, m, none⟩ = some (.int .i64 y) := fun d => keepc d.holds c1
          have ne : Nonempty (Of (PastV wr)) := ⟨⟨wr, Below.refl _ _⟩⟩
          have g1 : decide (y < x) = false := decide_eq_false (by omega)
          by_cases s : k < m
          · have g2 : decide ((k : Int) < m) = true := decide_eq_true (by omega)
            have g3 : (x == y) = false := beq_no (by have := QL.2 s; omega)
            have g4 : decide (k < m) = true := decide_eq_true s
            clear c0 c1 QL
            go_wp2_with fail
            refine wp_region_class (S := PastV wr) (by kernel_rfl) (by kernel_rfl) (Below.refl _ _).drew ?_
            repeat (go_big_quiet_step (fail))
            refine wpQuiet_nil ?_
            rintro _ ⟨d, rfl⟩
            have HD := Lib.hid (B.out.trans (show Below Vp.heap.size wr d.world from (show Below wr.heap.size wr d.world from d.holds).mono B.out.size))
            clear d0 d1 ne
            go_wp2
            go_roundw
            case rel => exact ⟨k + 1, by go_num, hlt, HD.out⟩
            case measure => simp [intOf]; omega
          · have g2 : decide ((k : Int) < m) = false := decide_eq_false (by omega)
            have g4 : decide (k < m) = false := decide_eq_false s
            clear c0 c1 QL
            go_wp2_with fail
            refine wp_region_class (S := PastV wr) (by kernel_rfl) (by kernel_rfl) (Below.refl _ _).drew ?_
            repeat (go_big_quiet_step (fail))
            refine wpQuiet_nil ?_
            rintro _ ⟨d, rfl⟩
            have HD := Lib.hid (B.out.trans (show Below Vp.heap.size wr d.world from (show Below wr.heap.size wr d.world from d.holds).mono B.out.size))
            clear d0 d1 ne
            go_wp2
            go_roundw
            case rel => exact ⟨k + 1, by go_num, hlt, HD.out⟩
            case measure => simp [intOf]; omega
        · obtain rfl : k = 3 := by omega
          have HB0 := HB
          replace HB := B
          go_wp2_with fail
          (((with_reducible refine (crossed_any _).mono ?_); rintro e w9 ⟨rfl, hb9⟩); replace HB := Lib.hid (HB.out.trans (hb9.mono HB.out.size)); clear hb9)
          go_wp2
          go_ret
          exact ⟨rfl, HB0.out.trans (HB.out.mono HB0.out.size)⟩
  · go_enter Try.func7, Try.ntmps7
    go_upto_region 1 with fail
    have hbx := below_new1 w (.cells #[.int .i64 a1, .int .i64 a2, .int .i64 a3] 23)
    have zx : (w.alloc (.cells #[.int .i64 a1, .int .i64 a2, .int .i64 a3] 23)).heap.size = w.heap.size + 1 := by simp
    have HB := Lib.hid hbx
    have kx := Lib.hid (Lok.new w 23 #[.int .i64 a1, .int .i64 a2, .int .i64 a3])
    clear hbx
    generalize w.alloc (.cells #[.int .i64 a1, .int .i64 a2, .int .i64 a3] 23) = Vx at *
    have hby := below_new1 Vx (.cells #[.int .i64 b1, .int .i64 b2, .int .i64 b3] 23)
    replace kx := Lib.hid (kx.out.keep hby)
    have zy : (Vx.alloc (.cells #[.int .i64 b1, .int .i64 b2, .int .i64 b3] 23)).heap.size = Vx.heap.size + 1 := by simp
    replace HB := Lib.hid (HB.out.trans (hby.mono HB.out.size))
    have ky := Lib.hid (Lok.new Vx 23 #[.int .i64 b1, .int .i64 b2, .int .i64 b3])
    clear hby
    generalize Vx.alloc (.cells #[.int .i64 b1, .int .i64 b2, .int .i64 b3] 23) = Vy at *
    rw [zx] at ky zy
    have hbz := below_new1 Vy (.cells #[.int .i64 c1, .int .i64 c2, .int .i64 c3] 23)
    replace kx := Lib.hid (kx.out.keep hbz)
    replace ky := Lib.hid (ky.out.keep hbz)
    have zz : (Vy.alloc (.cells #[.int .i64 c1, .int .i64 c2, .int .i64 c3] 23)).heap.size = Vy.heap.size + 1 := by simp
    replace HB := Lib.hid (HB.out.trans (hbz.mono HB.out.size))
    have kz := Lib.hid (Lok.new Vy 23 #[.int .i64 c1, .int .i64 c2, .int .i64 c3])
    clear hbz
    generalize Vy.alloc (.cells #[.int .i64 c1, .int .i64 c2, .int .i64 c3] 23) = Vz at *
    rw [zy] at kz
    clear zx zy zz
    have x0 := kx.out.cell (i := 0) rfl
    have x1 := kx.out.cell (i := 1) rfl
    have x2 := kx.out.cell (i := 2) rfl
    have y0 := ky.out.cell (i := 0) rfl
    have y1 := ky.out.cell (i := 1) rfl
    have y2 := ky.out.cell (i := 2) rfl
    go_wp2_with fail
    clear x0 x1 x2 y0 y1 y2
    (((with_reducible refine (L1.out _).mono ?_); rintro e w1 ⟨rfl, hb1⟩); replace HB := Lib.hid (HB.out.trans (hb1.mono HB.out.size)); replace kx := Lib.hid (kx.out.keep hb1); replace ky := Lib.hid (ky.out.keep hb1); replace kz := Lib.hid (kz.out.keep hb1); clear hb1)
    have x0 := kx.out.cell (i := 0) rfl
    have x1 := kx.out.cell (i := 1) rfl
    have x2 := kx.out.cell (i := 2) rfl
    have y0 := ky.out.cell (i := 0) rfl
    have y1 := ky.out.cell (i := 1) rfl
    have y2 := ky.out.cell (i := 2) rfl
    go_wp2_with fail
    clear x0 x1 x2 y0 y1 y2
    (((with_reducible refine (L1.out _).mono ?_); rintro e w2 ⟨rfl, hb2⟩); replace HB := Lib.hid (HB.out.trans (hb2.mono HB.out.size)); replace kx := Lib.hid (kx.out.keep hb2); replace ky := Lib.hid (ky.out.keep hb2); replace kz := Lib.hid (kz.out.keep hb2); clear hb2)
    go_upto_region 3 with fail
    have a0 : ∀ d : Of (PastV w2), ∀ i v, (#[Value.int .i64 a1, Value.int .i64 a2, Value.int .i64 a3] : Array Value)[i]? = some v → d.world.cell? ⟨w.heap.size, i, none⟩ = some v := fun d i v h => (kx.out.keep d.holds).cell h
    have b0 : ∀ d : Of (PastV w2), ∀ i v, (#[Value.int .i64 b1, Value.int .i64 b2, Value.int .i64 b3] : Array Value)[i]? = some v → d.world.cell? ⟨w.heap.size + 1, i, none⟩ = some v := fun d i v h => (ky.out.keep d.holds).cell h
    have a00 := fun d => a0 d 0 _ rfl
    have a01 := fun d => a0 d 1 _ rfl
    have a02 := fun d => a0 d 2 _ rfl
    have b00 := fun d => b0 d 0 _ rfl
    have b01 := fun d => b0 d 1 _ rfl
    have b02 := fun d => b0 d 2 _ rfl
    clear a0 b0
    have ST := Lib.hid (pastV_stays w2)
    have ne : Nonempty (Of (PastV w2)) := ⟨⟨w2, Below.refl _ _⟩⟩
    refine wp_region_class (S := PastV w2) (by kernel_rfl) (by kernel_rfl) (Below.refl _ _).drew ?_
    repeat (go_big_quiet_step (first | (go_at_call 22; first | (with_reducible exact class_call ST.out _ (L1.out _)) | (with_reducible exact class_call ST.out _ (L2.out _)))))
    refine wpQuiet_nil ?_
    rintro _ ⟨d, rfl⟩
    replace HB := Lib.hid (HB.out.trans (show Below w.heap.size w2 d.world from (show Below w2.heap.size w2 d.world from d.holds).mono HB.out.size))
    replace kx := Lib.hid (kx.out.keep d.holds)
    generalize d.world = v5 at *
    clear a00 a01 a02 b00 b01 b02 ne ST ky kz
    have x0 := kx.out.cell (i := 0) rfl
    have x1 := kx.out.cell (i := 1) rfl
    have x2 := kx.out.cell (i := 2) rfl
    go_wp2_with fail
    clear x0 x1 x2
    (((with_reducible refine (A.out _).mono ?_); rintro e w6 ⟨rfl, hb6⟩); replace HB := Lib.hid (HB.out.trans (hb6.mono HB.out.size)); replace kx := Lib.hid (kx.out.keep hb6); clear hb6)
    have x0 := kx.out.cell (i := 0) rfl
    have x1 := kx.out.cell (i := 1) rfl
    have x2 := kx.out.cell (i := 2) rfl
    have m1 : decide ((m : Int) < 0) = false := decide_eq_false (by omega)
    have m2 : decide (2 < (m : Int)) = false := decide_eq_false (by have := HM.out; omega)
    have m3 : decide ((m : Int) ≤ 2) = true := decide_eq_true (by have := HM.out; omega)
    have m4 : decide (0 ≤ (m : Int)) = true := decide_eq_true (by omega)
    go_wp2_with fail
    clear x0 x1 x2
    have hbr := below_new1 w6 (.cells #[.int .i64 a1, .int .i64 a2, .int .i64 a3] 23)
    replace kx := Lib.hid (kx.out.keep hbr)
    have zr : (w6.alloc (.cells #[.int .i64 a1, .int .i64 a2, .int .i64 a3] 23)).heap.size = w6.heap.size + 1 := by simp
    replace HB := Lib.hid (HB.out.trans (hbr.mono HB.out.size))
    have kr := Lib.hid (Lok.new w6 23 #[.int .i64 a1, .int .i64 a2, .int .i64 a3])
    clear hbr
    generalize w6.alloc (.cells #[.int .i64 a1, .int .i64 a2, .int .i64 a3] 23) = Vr at *
    clear zr
    generalize w6.heap.size = gr at *
    (((with_reducible refine (I.out _ _ _ kr.out).mono ?_); rintro e w7 ⟨rfl, hb7⟩); replace HB := Lib.hid (HB.out.trans (hb7.mono HB.out.size)); replace kx := Lib.hid (kx.out.keep hb7); clear hb7)
    clear kr
    cases t with
    | false =>
      go_wp2_with fail
      (((with_reducible refine (crossed_any _).mono ?_); rintro e w8 ⟨rfl, hb8⟩); replace HB := Lib.hid (HB.out.trans (hb8.mono HB.out.size)); clear hb8)
      go_wp2
      go_ret
      exact ⟨rfl, HB.out⟩
    | true =>
      have nn := HN.out rfl
      have s1 := sq_wrap nn.1
      have s2 := sq_wrap nn.2.1
      have s3 := sq_wrap nn.2.2
      have x0 := kx.out.cell (i := 0) rfl
      have x1 := kx.out.cell (i := 1) rfl
      have x2 := kx.out.cell (i := 2) rfl
      clear nn
      go_upto_region 9 with fail
      clear x0 x1 x2 s1 s2 s3
      have hbp := below_new1 w7 (.cells #[.int .i64 (a1 * a1), .int .i64 (a2 * a2), .int .i64 (a3 * a3)] 3)
      have zp : (w7.alloc (.cells #[.int .i64 (a1 * a1), .int .i64 (a2 * a2), .int .i64 (a3 * a3)] 3)).heap.size = w7.heap.size + 1 := by simp
      replace HB := Lib.hid (HB.out.trans (hbp.mono HB.out.size))
      have kp := Lib.hid (Lok.new w7 3 #[.int .i64 (a1 * a1), .int .i64 (a2 * a2), .int .i64 (a3 * a3)])
      clear hbp
      generalize w7.alloc (.cells #[.int .i64 (a1 * a1), .int .i64 (a2 * a2), .int .i64 (a3 * a3)] 3) = Vp at *
      clear zp
      generalize w7.heap.size = gp at *
      go_wp2_with fail
      go_loopw [9] (fun x wr => ∃ k : Nat, x = .int .i64 k ∧ k ≤ 3 ∧ Below Vp.heap.size Vp wr) (fun x _ => 3 - (intOf x).toNat)
      case atStart => exact ⟨0, rfl, Nat.zero_le _, Below.refl _ _⟩
      case round =>
        obtain ⟨k, rfl, hk, hB⟩ := hrel
        have B := Lib.hid hB
        have kq := Lib.hid (kp.out.keep hB)
        clear hB
        by_cases hlt : k < 3
        · have c0 := kq.out.cell (sq_at a1 a2 a3 hlt)
          have c1 := kq.out.cell (sq_at a1 a2 a3 HM.out)
          have QL := HQ.out k hlt
          generalize sqF a1 a2 a3 k = x at *
          have ex : ∃ y, y = sqF a1 a2 a3 m := ⟨_, rfl⟩
          obtain ⟨y, hy⟩ := ex
          rw [← hy] at c1 QL
          clear hy
          have i0 : (0 : Int) ≤ (k : Int) := by omega
          have i1 : (k : Int) < 3 := by omega
          have i2 : ((k : Int)).toNat = k := by omega
          have j0 : (0 : Int) ≤ (m : Int) := by omega
          have j1 : (m : Int) < 3 := by have := HM.out; omega
          have j2 : ((m : Int)).toNat = m := by omega
          have d0 : ∀ d : Of (PastV wr), d.world.cell? ⟨gp, k, none⟩ = some (.int .i64 x) := fun d => keepc d.holds c0
          have d1 : ∀ d : Of (PastV wr), d.world.cell? ⟨gp, m, none⟩ = some (.int .i64 y) := fun d => keepc d.holds c1
          have ne : Nonempty (Of (PastV wr)) := ⟨⟨wr, Below.refl _ _⟩⟩
          have g1 : decide (y < x) = false := decide_eq_false (by omega)
          by_cases s : k < m
          · have g2 : decide ((k : Int) < m) = true := decide_eq_true (by omega)
            have g3 : (x == y) = false := beq_no (by have := QL.2 s; omega)
            have g4 : decide (k < m) = true := decide_eq_true s
            clear c0 c1 QL
            go_wp2_with fail
            refine wp_region_class (S := PastV wr) (by kernel_rfl) (by kernel_rfl) (Below.refl _ _).drew ?_
            repeat (go_big_quiet_step (fail))
            refine wpQuiet_nil ?_
            rintro _ ⟨d, rfl⟩
            have HD := Lib.hid (B.out.trans (show Below Vp.heap.size wr d.world from (show Below wr.heap.size wr d.world from d.holds).mono B.out.size))
            clear d0 d1 ne
            go_wp2
            go_roundw
            case rel => exact ⟨k + 1, by go_num, hlt, HD.out⟩
            case measure => simp [intOf]; omega
          · have g2 : decide ((k : Int) < m) = false := decide_eq_false (by omega)
            have g4 : decide (k < m) = false := decide_eq_false s
            clear c0 c1 QL
            go_wp2_with fail
            refine wp_region_class (S := PastV wr) (by kernel_rfl) (by kernel_rfl) (Below.refl _ _).drew ?_
            repeat (go_big_quiet_step (fail))
            refine wpQuiet_nil ?_
            rintro _ ⟨d, rfl⟩
            have HD := Lib.hid (B.out.trans (show Below Vp.heap.size wr d.world from (show Below wr.heap.size wr d.world from d.holds).mono B.out.size))
            clear d0 d1 ne
            go_wp2
            go_roundw
            case rel => exact ⟨k + 1, by go_num, hlt, HD.out⟩
            case measure => simp [intOf]; omega
        · obtain rfl : k = 3 := by omega
          have HB0 := HB
          replace HB := B
          go_wp2_with fail
          (((with_reducible refine (crossed_any _).mono ?_); rintro e w9 ⟨rfl, hb9⟩); replace HB := Lib.hid (HB.out.trans (hb9.mono HB.out.size)); clear hb9)
          go_wp2
          go_ret
          exact ⟨rfl, HB0.out.trans (HB.out.mono HB0.out.size)⟩
  · go_enter Try.func7, Try.ntmps7
    go_upto_region 1 with fail
    have hbx := below_new1 w (.cells #[.int .i64 a1, .int .i64 a2, .int .i64 a3] 23)
    have zx : (w.alloc (.cells #[.int .i64 a1, .int .i64 a2, .int .i64 a3] 23)).heap.size = w.heap.size + 1 := by simp
    have HB := Lib.hid hbx
    have kx := Lib.hid (Lok.new w 23 #[.int .i64 a1, .int .i64 a2, .int .i64 a3])
    clear hbx
    generalize w.alloc (.cells #[.int .i64 a1, .int .i64 a2, .int .i64 a3] 23) = Vx at *
    have hby := below_new1 Vx (.cells #[.int .i64 b1, .int .i64 b2, .int .i64 b3] 23)
    replace kx := Lib.hid (kx.out.keep hby)
    have zy : (Vx.alloc (.cells #[.int .i64 b1, .int .i64 b2, .int .i64 b3] 23)).heap.size = Vx.heap.size + 1 := by simp
    replace HB := Lib.hid (HB.out.trans (hby.mono HB.out.size))
    have ky := Lib.hid (Lok.new Vx 23 #[.int .i64 b1, .int .i64 b2, .int .i64 b3])
    clear hby
    generalize Vx.alloc (.cells #[.int .i64 b1, .int .i64 b2, .int .i64 b3] 23) = Vy at *
    rw [zx] at ky zy
    have hbz := below_new1 Vy (.cells #[.int .i64 c1, .int .i64 c2, .int .i64 c3] 23)
    replace kx := Lib.hid (kx.out.keep hbz)
    replace ky := Lib.hid (ky.out.keep hbz)
    have zz : (Vy.alloc (.cells #[.int .i64 c1, .int .i64 c2, .int .i64 c3] 23)).heap.size = Vy.heap.size + 1 := by simp
    replace HB := Lib.hid (HB.out.trans (hbz.mono HB.out.size))
    have kz := Lib.hid (Lok.new Vy 23 #[.int .i64 c1, .int .i64 c2, .int .i64 c3])
    clear hbz
    generalize Vy.alloc (.cells #[.int .i64 c1, .int .i64 c2, .int .i64 c3] 23) = Vz at *
    rw [zy] at kz
    clear zx zy zz
    have x0 := kx.out.cell (i := 0) rfl
    have x1 := kx.out.cell (i := 1) rfl
    have x2 := kx.out.cell (i := 2) rfl
    have y0 := ky.out.cell (i := 0) rfl
    have y1 := ky.out.cell (i := 1) rfl
    have y2 := ky.out.cell (i := 2) rfl
    go_wp2_with fail
    clear x0 x1 x2 y0 y1 y2
    (((with_reducible refine (L1.out _).mono ?_); rintro e w1 ⟨rfl, hb1⟩); replace HB := Lib.hid (HB.out.trans (hb1.mono HB.out.size)); replace kx := Lib.hid (kx.out.keep hb1); replace ky := Lib.hid (ky.out.keep hb1); replace kz := Lib.hid (kz.out.keep hb1); clear hb1)
    have x0 := kx.out.cell (i := 0) rfl
    have x1 := kx.out.cell (i := 1) rfl
    have x2 := kx.out.cell (i := 2) rfl
    have y0 := ky.out.cell (i := 0) rfl
    have y1 := ky.out.cell (i := 1) rfl
    have y2 := ky.out.cell (i := 2) rfl
    go_wp2_with fail
    clear x0 x1 x2 y0 y1 y2
    (((with_reducible refine (L2.out _).mono ?_); rintro e w2 ⟨rfl, hb2⟩); replace HB := Lib.hid (HB.out.trans (hb2.mono HB.out.size)); replace kx := Lib.hid (kx.out.keep hb2); replace ky := Lib.hid (ky.out.keep hb2); replace kz := Lib.hid (kz.out.keep hb2); clear hb2)
    have x0 := kx.out.cell (i := 0) rfl
    have x1 := kx.out.cell (i := 1) rfl
    have x2 := kx.out.cell (i := 2) rfl
    have y0 := ky.out.cell (i := 0) rfl
    have y1 := ky.out.cell (i := 1) rfl
    have y2 := ky.out.cell (i := 2) rfl
    go_wp2_with fail
    clear x0 x1 x2 y0 y1 y2
    (((with_reducible refine (L1.out _).mono ?_); rintro e w3 ⟨rfl, hb3⟩); replace HB := Lib.hid (HB.out.trans (hb3.mono HB.out.size)); replace kx := Lib.hid (kx.out.keep hb3); replace ky := Lib.hid (ky.out.keep hb3); replace kz := Lib.hid (kz.out.keep hb3); clear hb3)
    have y0 := ky.out.cell (i := 0) rfl
    have y1 := ky.out.cell (i := 1) rfl
    have y2 := ky.out.cell (i := 2) rfl
    have z0 := kz.out.cell (i := 0) rfl
    have z1 := kz.out.cell (i := 1) rfl
    have z2 := kz.out.cell (i := 2) rfl
    go_wp2_with fail
    clear y0 y1 y2 z0 z1 z2
    (((with_reducible refine (L3.out _).mono ?_); rintro e w4 ⟨rfl, hb4⟩); replace HB := Lib.hid (HB.out.trans (hb4.mono HB.out.size)); replace kx := Lib.hid (kx.out.keep hb4); replace ky := Lib.hid (ky.out.keep hb4); replace kz := Lib.hid (kz.out.keep hb4); clear hb4)
    go_upto_region 3 with fail
    have a0 : ∀ d : Of (PastV w4), ∀ i v, (#[Value.int .i64 a1, Value.int .i64 a2, Value.int .i64 a3] : Array Value)[i]? = some v → d.world.cell? ⟨w.heap.size, i, none⟩ = some v := fun d i v h => (kx.out.keep d.holds).cell h
    have b0 : ∀ d : Of (PastV w4), ∀ i v, (#[Value.int .i64 b1, Value.int .i64 b2, Value.int .i64 b3] : Array Value)[i]? = some v → d.world.cell? ⟨w.heap.size + 1, i, none⟩ = some v := fun d i v h => (ky.out.keep d.holds).cell h
    have a00 := fun d => a0 d 0 _ rfl
    have a01 := fun d => a0 d 1 _ rfl
    have a02 := fun d => a0 d 2 _ rfl
    have b00 := fun d => b0 d 0 _ rfl
    have b01 := fun d => b0 d 1 _ rfl
    have b02 := fun d => b0 d 2 _ rfl
    clear a0 b0
    have ST := Lib.hid (pastV_stays w4)
    have ne : Nonempty (Of (PastV w4)) := ⟨⟨w4, Below.refl _ _⟩⟩
    refine wp_region_class (S := PastV w4) (by kernel_rfl) (by kernel_rfl) (Below.refl _ _).drew ?_
    repeat (go_big_quiet_step (first | (go_at_call 22; first | (with_reducible exact class_call ST.out _ (L1.out _)) | (with_reducible exact class_call ST.out _ (L2.out _)))))
    refine wpQuiet_nil ?_
    rintro _ ⟨d, rfl⟩
    replace HB := Lib.hid (HB.out.trans (show Below w.heap.size w4 d.world from (show Below w4.heap.size w4 d.world from d.holds).mono HB.out.size))
    replace kx := Lib.hid (kx.out.keep d.holds)
    generalize d.world = v5 at *
    clear a00 a01 a02 b00 b01 b02 ne ST ky kz
    have x0 := kx.out.cell (i := 0) rfl
    have x1 := kx.out.cell (i := 1) rfl
    have x2 := kx.out.cell (i := 2) rfl
    go_wp2_with fail
    clear x0 x1 x2
    (((with_reducible refine (A.out _).mono ?_); rintro e w6 ⟨rfl, hb6⟩); replace HB := Lib.hid (HB.out.trans (hb6.mono HB.out.size)); replace kx := Lib.hid (kx.out.keep hb6); clear hb6)
    have x0 := kx.out.cell (i := 0) rfl
    have x1 := kx.out.cell (i := 1) rfl
    have x2 := kx.out.cell (i := 2) rfl
    have m1 : decide ((m : Int) < 0) = false := decide_eq_false (by omega)
    have m2 : decide (2 < (m : Int)) = false := decide_eq_false (by have := HM.out; omega)
    have m3 : decide ((m : Int) ≤ 2) = true := decide_eq_true (by have := HM.out; omega)
    have m4 : decide (0 ≤ (m : Int)) = true := decide_eq_true (by omega)
    go_wp2_with fail
    clear x0 x1 x2
    have hbr := below_new1 w6 (.cells #[.int .i64 a1, .int .i64 a2, .int .i64 a3] 23)
    replace kx := Lib.hid (kx.out.keep hbr)
    have zr : (w6.alloc (.cells #[.int .i64 a1, .int .i64 a2, .int .i64 a3] 23)).heap.size = w6.heap.size + 1 := by simp
    replace HB := Lib.hid (HB.out.trans (hbr.mono HB.out.size))
    have kr := Lib.hid (Lok.new w6 23 #[.int .i64 a1, .int .i64 a2, .int .i64 a3])
    clear hbr
    generalize w6.alloc (.cells #[.int .i64 a1, .int .i64 a2, .int .i64 a3] 23) = Vr at *
    clear zr
    generalize w6.heap.size = gr at *
    (((with_reducible refine (I.out _ _ _ kr.out).mono ?_); rintro e w7 ⟨rfl, hb7⟩); replace HB := Lib.hid (HB.out.trans (hb7.mono HB.out.size)); replace kx := Lib.hid (kx.out.keep hb7); clear hb7)
    clear kr
    cases t with
    | false =>
      go_wp2_with fail
      (((with_reducible refine (crossed_any _).mono ?_); rintro e w8 ⟨rfl, hb8⟩); replace HB := Lib.hid (HB.out.trans (hb8.mono HB.out.size)); clear hb8)
      go_wp2
      go_ret
      exact ⟨rfl, HB.out⟩
    | true =>
      have nn := HN.out rfl
      have s1 := sq_wrap nn.1
      have s2 := sq_wrap nn.2.1
      have s3 := sq_wrap nn.2.2
      have x0 := kx.out.cell (i := 0) rfl
      have x1 := kx.out.cell (i := 1) rfl
      have x2 := kx.out.cell (i := 2) rfl
      clear nn
      go_upto_region 9 with fail
      clear x0 x1 x2 s1 s2 s3
      have hbp := below_new1 w7 (.cells #[.int .i64 (a1 * a1), .int .i64 (a2 * a2), .int .i64 (a3 * a3)] 3)
      have zp : (w7.alloc (.cells #[.int .i64 (a1 * a1), .int .i64 (a2 * a2), .int .i64 (a3 * a3)] 3)).heap.size = w7.heap.size + 1 := by simp
      replace HB := Lib.hid (HB.out.trans (hbp.mono HB.out.size))
      have kp := Lib.hid (Lok.new w7 3 #[.int .i64 (a1 * a1), .int .i64 (a2 * a2), .int .i64 (a3 * a3)])
      clear hbp
      generalize w7.alloc (.cells #[.int .i64 (a1 * a1), .int .i64 (a2 * a2), .int .i64 (a3 * a3)] 3) = Vp at *
      clear zp
      generalize w7.heap.size = gp at *
      go_wp2_with fail
      go_loopw [9] (fun x wr => ∃ k : Nat, x = .int .i64 k ∧ k ≤ 3 ∧ Below Vp.heap.size Vp wr) (fun x _ => 3 - (intOf x).toNat)
      case atStart => exact ⟨0, rfl, Nat.zero_le _, Below.refl _ _⟩
      case round =>
        obtain ⟨k, rfl, hk, hB⟩ := hrel
        have B := Lib.hid hB
        have kq := Lib.hid (kp.out.keep hB)
        clear hB
        by_cases hlt : k < 3
        · have c0 := kq.out.cell (sq_at a1 a2 a3 hlt)
          have c1 := kq.out.cell (sq_at a1 a2 a3 HM.out)
          have QL := HQ.out k hlt
          generalize sqF a1 a2 a3 k = x at *
          have ex : ∃ y, y = sqF a1 a2 a3 m := ⟨_, rfl⟩
          obtain ⟨y, hy⟩ := ex
          rw [← hy] at c1 QL
          clear hy
          have i0 : (0 : Int) ≤ (k : Int) := by omega
          have i1 : (k : Int) < 3 := by omega
          have i2 : ((k : Int)).toNat = k := by omega
          have j0 : (0 : Int) ≤ (m : Int) := by omega
          have j1 : (m : Int) < 3 := by have := HM.out; omega
          have j2 : ((m : Int)).toNat = m := by omega
          have d0 : ∀ d : Of (PastV wr), d.world.cell? ⟨gp, k, none⟩ = some (.int .i64 x) := fun d => keepc d.holds c0
          have d1 : ∀ d : Of (PastV wr), d.world.cell? ⟨gp, m, none⟩ = some (.int .i64 y) := fun d => keepc d.holds c1
          have ne : Nonempty (Of (PastV wr)) := ⟨⟨wr, Below.refl _ _⟩⟩
          have g1 : decide (y < x) = false := decide_eq_false (by omega)
          by_cases s : k < m
          · have g2 : decide ((k : Int) < m) = true := decide_eq_true (by omega)
            have g3 : (x == y) = false := beq_no (by have := QL.2 s; omega)
            have g4 : decide (k < m) = true := decide_eq_true s
            clear c0 c1 QL
            go_wp2_with fail
            refine wp_region_class (S := PastV wr) (by kernel_rfl) (by kernel_rfl) (Below.refl _ _).drew ?_
            repeat (go_big_quiet_step (fail))
            refine wpQuiet_nil ?_
            rintro _ ⟨d, rfl⟩
            have HD := Lib.hid (B.out.trans (show Below Vp.heap.size wr d.world from (show Below wr.heap.size wr d.world from d.holds).mono B.out.size))
            clear d0 d1 ne
            go_wp2
            go_roundw
            case rel => exact ⟨k + 1, by go_num, hlt, HD.out⟩
            case measure => simp [intOf]; omega
          · have g2 : decide ((k : Int) < m) = false := decide_eq_false (by omega)
            have g4 : decide (k < m) = false := decide_eq_false s
            clear c0 c1 QL
            go_wp2_with fail
            refine wp_region_class (S := PastV wr) (by kernel_rfl) (by kernel_rfl) (Below.refl _ _).drew ?_
            repeat (go_big_quiet_step (fail))
            refine wpQuiet_nil ?_
            rintro _ ⟨d, rfl⟩
            have HD := Lib.hid (B.out.trans (show Below Vp.heap.size wr d.world from (show Below wr.heap.size wr d.world from d.holds).mono B.out.size))
            clear d0 d1 ne
            go_wp2
            go_roundw
            case rel => exact ⟨k + 1, by go_num, hlt, HD.out⟩
            case measure => simp [intOf]; omega
        · obtain rfl : k = 3 := by omega
          have HB0 := HB
          replace HB := B
          go_wp2_with fail
          (((with_reducible refine (crossed_any _).mono ?_); rintro e w9 ⟨rfl, hb9⟩); replace HB := Lib.hid (HB.out.trans (hb9.mono HB.out.size)); clear hb9)
          go_wp2
          go_ret
          exact ⟨rfl, HB0.out.trans (HB.out.mono HB0.out.size)⟩
  · go_enter Try.func7, Try.ntmps7
    go_upto_region 1 with fail
    have hbx := below_new1 w (.cells #[.int .i64 a1, .int .i64 a2, .int .i64 a3] 23)
    have zx : (w.alloc (.cells #[.int .i64 a1, .int .i64 a2, .int .i64 a3] 23)).heap.size = w.heap.size + 1 := by simp
    have HB := Lib.hid hbx
    have kx := Lib.hid (Lok.new w 23 #[.int .i64 a1, .int .i64 a2, .int .i64 a3])
    clear hbx
    generalize w.alloc (.cells #[.int .i64 a1, .int .i64 a2, .int .i64 a3] 23) = Vx at *
    have hby := below_new1 Vx (.cells #[.int .i64 b1, .int .i64 b2, .int .i64 b3] 23)
    replace kx := Lib.hid (kx.out.keep hby)
    have zy : (Vx.alloc (.cells #[.int .i64 b1, .int .i64 b2, .int .i64 b3] 23)).heap.size = Vx.heap.size + 1 := by simp
    replace HB := Lib.hid (HB.out.trans (hby.mono HB.out.size))
    have ky := Lib.hid (Lok.new Vx 23 #[.int .i64 b1, .int .i64 b2, .int .i64 b3])
    clear hby
    generalize Vx.alloc (.cells #[.int .i64 b1, .int .i64 b2, .int .i64 b3] 23) = Vy at *
    rw [zx] at ky zy
    have hbz := below_new1 Vy (.cells #[.int .i64 c1, .int .i64 c2, .int .i64 c3] 23)
    replace kx := Lib.hid (kx.out.keep hbz)
    replace ky := Lib.hid (ky.out.keep hbz)
    have zz : (Vy.alloc (.cells #[.int .i64 c1, .int .i64 c2, .int .i64 c3] 23)).heap.size = Vy.heap.size + 1 := by simp
    replace HB := Lib.hid (HB.out.trans (hbz.mono HB.out.size))
    have kz := Lib.hid (Lok.new Vy 23 #[.int .i64 c1, .int .i64 c2, .int .i64 c3])
    clear hbz
    generalize Vy.alloc (.cells #[.int .i64 c1, .int .i64 c2, .int .i64 c3] 23) = Vz at *
    rw [zy] at kz
    clear zx zy zz
    have x0 := kx.out.cell (i := 0) rfl
    have x1 := kx.out.cell (i := 1) rfl
    have x2 := kx.out.cell (i := 2) rfl
    have y0 := ky.out.cell (i := 0) rfl
    have y1 := ky.out.cell (i := 1) rfl
    have y2 := ky.out.cell (i := 2) rfl
    go_wp2_with fail
    clear x0 x1 x2 y0 y1 y2
    (((with_reducible refine (L1.out _).mono ?_); rintro e w1 ⟨rfl, hb1⟩); replace HB := Lib.hid (HB.out.trans (hb1.mono HB.out.size)); replace kx := Lib.hid (kx.out.keep hb1); replace ky := Lib.hid (ky.out.keep hb1); replace kz := Lib.hid (kz.out.keep hb1); clear hb1)
    have x0 := kx.out.cell (i := 0) rfl
    have x1 := kx.out.cell (i := 1) rfl
    have x2 := kx.out.cell (i := 2) rfl
    have y0 := ky.out.cell (i := 0) rfl
    have y1 := ky.out.cell (i := 1) rfl
    have y2 := ky.out.cell (i := 2) rfl
    go_wp2_with fail
    clear x0 x1 x2 y0 y1 y2
    (((with_reducible refine (L2.out _).mono ?_); rintro e w2 ⟨rfl, hb2⟩); replace HB := Lib.hid (HB.out.trans (hb2.mono HB.out.size)); replace kx := Lib.hid (kx.out.keep hb2); replace ky := Lib.hid (ky.out.keep hb2); replace kz := Lib.hid (kz.out.keep hb2); clear hb2)
    have x0 := kx.out.cell (i := 0) rfl
    have x1 := kx.out.cell (i := 1) rfl
    have x2 := kx.out.cell (i := 2) rfl
    have y0 := ky.out.cell (i := 0) rfl
    have y1 := ky.out.cell (i := 1) rfl
    have y2 := ky.out.cell (i := 2) rfl
    go_wp2_with fail
    clear x0 x1 x2 y0 y1 y2
    (((with_reducible refine (L1.out _).mono ?_); rintro e w3 ⟨rfl, hb3⟩); replace HB := Lib.hid (HB.out.trans (hb3.mono HB.out.size)); replace kx := Lib.hid (kx.out.keep hb3); replace ky := Lib.hid (ky.out.keep hb3); replace kz := Lib.hid (kz.out.keep hb3); clear hb3)
    have y0 := ky.out.cell (i := 0) rfl
    have y1 := ky.out.cell (i := 1) rfl
    have y2 := ky.out.cell (i := 2) rfl
    have z0 := kz.out.cell (i := 0) rfl
    have z1 := kz.out.cell (i := 1) rfl
    have z2 := kz.out.cell (i := 2) rfl
    go_wp2_with fail
    clear y0 y1 y2 z0 z1 z2
    (((with_reducible refine (L3.out _).mono ?_); rintro e w4 ⟨rfl, hb4⟩); replace HB := Lib.hid (HB.out.trans (hb4.mono HB.out.size)); replace kx := Lib.hid (kx.out.keep hb4); replace ky := Lib.hid (ky.out.keep hb4); replace kz := Lib.hid (kz.out.keep hb4); clear hb4)
    have x0 := kx.out.cell (i := 0) rfl
    have x1 := kx.out.cell (i := 1) rfl
    have x2 := kx.out.cell (i := 2) rfl
    have z0 := kz.out.cell (i := 0) rfl
    have z1 := kz.out.cell (i := 1) rfl
    have z2 := kz.out.cell (i := 2) rfl
    go_wp2_with fail
    clear x0 x1 x2 z0 z1 z2
    (((with_reducible refine (L4.out _).mono ?_); rintro e w5 ⟨rfl, hb5⟩); replace HB := Lib.hid (HB.out.trans (hb5.mono HB.out.size)); replace kx := Lib.hid (kx.out.keep hb5); replace ky := Lib.hid (ky.out.keep hb5); replace kz := Lib.hid (kz.out.keep hb5); clear hb5)
    go_upto_region 3 with fail
    have a0 : ∀ d : Of (PastV w5), ∀ i v, (#[Value.int .i64 a1, Value.int .i64 a2, Value.int .i64 a3] : Array Value)[i]? = some v → d.world.cell? ⟨w.heap.size, i, none⟩ = some v := fun d i v h => (kx.out.keep d.holds).cell h
    have b0 : ∀ d : Of (PastV w5), ∀ i v, (#[Value.int .i64 b1, Value.int .i64 b2, Value.int .i64 b3] : Array Value)[i]? = some v → d.world.cell? ⟨w.heap.size + 1, i, none⟩ = some v := fun d i v h => (ky.out.keep d.holds).cell h
    have a00 := fun d => a0 d 0 _ rfl
    have a01 := fun d => a0 d 1 _ rfl
    have a02 := fun d => a0 d 2 _ rfl
    have b00 := fun d => b0 d 0 _ rfl
    have b01 := fun d => b0 d 1 _ rfl
    have b02 := fun d => b0 d 2 _ rfl
    clear a0 b0
    have ST := Lib.hid (pastV_stays w5)
    have ne : Nonempty (Of (PastV w5)) := ⟨⟨w5, Below.refl _ _⟩⟩
    refine wp_region_class (S := PastV w5) (by kernel_rfl) (by kernel_rfl) (Below.refl _ _).drew ?_
    repeat (go_big_quiet_step (first | (go_at_call 22; first | (with_reducible exact class_call ST.out _ (L1.out _)) | (with_reducible exact class_call ST.out _ (L2.out _)))))
    refine wpQuiet_nil ?_
    rintro _ ⟨d, rfl⟩
    replace HB := Lib.hid (HB.out.trans (show Below w.heap.size w5 d.world from (show Below w5.heap.size w5 d.world from d.holds).mono HB.out.size))
    replace kx := Lib.hid (kx.out.keep d.holds)
    generalize d.world = v5 at *
    clear a00 a01 a02 b00 b01 b02 ne ST ky kz
    have x0 := kx.out.cell (i := 0) rfl
    have x1 := kx.out.cell (i := 1) rfl
    have x2 := kx.out.cell (i := 2) rfl
    go_wp2_with fail
    clear x0 x1 x2
    (((with_reducible refine (A.out _).mono ?_); rintro e w6 ⟨rfl, hb6⟩); replace HB := Lib.hid (HB.out.trans (hb6.mono HB.out.size)); replace kx := Lib.hid (kx.out.keep hb6); clear hb6)
    have x0 := kx.out.cell (i := 0) rfl
    have x1 := kx.out.cell (i := 1) rfl
    have x2 := kx.out.cell (i := 2) rfl
    have m1 : decide ((m : Int) < 0) = false := decide_eq_false (by omega)
    have m2 : decide (2 < (m : Int)) = false := decide_eq_false (by have := HM.out; omega)
    have m3 : decide ((m : Int) ≤ 2) = true := decide_eq_true (by have := HM.out; omega)
    have m4 : decide (0 ≤ (m : Int)) = true := decide_eq_true (by omega)
    go_wp2_with fail
    clear x0 x1 x2
    have hbr := below_new1 w6 (.cells #[.int .i64 a1, .int .i64 a2, .int .i64 a3] 23)
    replace kx := Lib.hid (kx.out.keep hbr)
    have zr : (w6.alloc (.cells #[.int .i64 a1, .int .i64 a2, .int .i64 a3] 23)).heap.size = w6.heap.size + 1 := by simp
    replace HB := Lib.hid (HB.out.trans (hbr.mono HB.out.size))
    have kr := Lib.hid (Lok.new w6 23 #[.int .i64 a1, .int .i64 a2, .int .i64 a3])
    clear hbr
    generalize w6.alloc (.cells #[.int .i64 a1, .int .i64 a2, .int .i64 a3] 23) = Vr at *
    clear zr
    generalize w6.heap.size = gr at *
    (((with_reducible refine (I.out _ _ _ kr.out).mono ?_); rintro e w7 ⟨rfl, hb7⟩); replace HB := Lib.hid (HB.out.trans (hb7.mono HB.out.size)); replace kx := Lib.hid (kx.out.keep hb7); clear hb7)
    clear kr
    cases t with
    | false =>
      go_wp2_with fail
      (((with_reducible refine (crossed_any _).mono ?_); rintro e w8 ⟨rfl, hb8⟩); replace HB := Lib.hid (HB.out.trans (hb8.mono HB.out.size)); clear hb8)
      go_wp2
      go_ret
      exact ⟨rfl, HB.out⟩
    | true =>
      have nn := HN.out rfl
      have s1 := sq_wrap nn.1
      have s2 := sq_wrap nn.2.1
      have s3 := sq_wrap nn.2.2
      have x0 := kx.out.cell (i := 0) rfl
      have x1 := kx.out.cell (i := 1) rfl
      have x2 := kx.out.cell (i := 2) rfl
      clear nn
      go_upto_region 9 with fail
      clear x0 x1 x2 s1 s2 s3
      have hbp := below_new1 w7 (.cells #[.int .i64 (a1 * a1), .int .i64 (a2 * a2), .int .i64 (a3 * a3)] 3)
      have zp : (w7.alloc (.cells #[.int .i64 (a1 * a1), .int .i64 (a2 * a2), .int .i64 (a3 * a3)] 3)).heap.size = w7.heap.size + 1 := by simp
      replace HB := Lib.hid (HB.out.trans (hbp.mono HB.out.size))
      have kp := Lib.hid (Lok.new w7 3 #[.int .i64 (a1 * a1), .int .i64 (a2 * a2), .int .i64 (a3 * a3)])
      clear hbp
      generalize w7.alloc (.cells #[.int .i64 (a1 * a1), .int .i64 (a2 * a2), .int .i64 (a3 * a3)] 3) = Vp at *
      clear zp
      generalize w7.heap.size = gp at *
      go_wp2_with fail
      go_loopw [9] (fun x wr => ∃ k : Nat, x = .int .i64 k ∧ k ≤ 3 ∧ Below Vp.heap.size Vp wr) (fun x _ => 3 - (intOf x).toNat)
      case atStart => exact ⟨0, rfl, Nat.zero_le _, Below.refl _ _⟩
      case round =>
        obtain ⟨k, rfl, hk, hB⟩ := hrel
        have B := Lib.hid hB
        have kq := Lib.hid (kp.out.keep hB)
        clear hB
        by_cases hlt : k < 3
        · have c0 := kq.out.cell (sq_at a1 a2 a3 hlt)
          have c1 := kq.out.cell (sq_at a1 a2 a3 HM.out)
          have QL := HQ.out k hlt
          generalize sqF a1 a2 a3 k = x at *
          have ex : ∃ y, y = sqF a1 a2 a3 m := ⟨_, rfl⟩
          obtain ⟨y, hy⟩ := ex
          rw [← hy] at c1 QL
          clear hy
          have i0 : (0 : Int) ≤ (k : Int) := by omega
          have i1 : (k : Int) < 3 := by omega
          have i2 : ((k : Int)).toNat = k := by omega
          have j0 : (0 : Int) ≤ (m : Int) := by omega
          have j1 : (m : Int) < 3 := by have := HM.out; omega
          have j2 : ((m : Int)).toNat = m := by omega
          have d0 : ∀ d : Of (PastV wr), d.world.cell? ⟨gp, k, none⟩ = some (.int .i64 x) := fun d => keepc d.holds c0
          have d1 : ∀ d : Of (PastV wr), d.world.cell? ⟨gp, m, none⟩ = some (.int .i64 y) := fun d => keepc d.holds c1
          have ne : Nonempty (Of (PastV wr)) := ⟨⟨wr, Below.refl _ _⟩⟩
          have g1 : decide (y < x) = false := decide_eq_false (by omega)
          by_cases s : k < m
          · have g2 : decide ((k : Int) < m) = true := decide_eq_true (by omega)
            have g3 : (x == y) = false := beq_no (by have := QL.2 s; omega)
            have g4 : decide (k < m) = true := decide_eq_true s
            clear c0 c1 QL
            go_wp2_with fail
            refine wp_region_class (S := PastV wr) (by kernel_rfl) (by kernel_rfl) (Below.refl _ _).drew ?_
            repeat (go_big_quiet_step (fail))
            refine wpQuiet_nil ?_
            rintro _ ⟨d, rfl⟩
            have HD := Lib.hid (B.out.trans (show Below Vp.heap.size wr d.world from (show Below wr.heap.size wr d.world from d.holds).mono B.out.size))
            clear d0 d1 ne
            go_wp2
            go_roundw
            case rel => exact ⟨k + 1, by go_num, hlt, HD.out⟩
            case measure => simp [intOf]; omega
          · have g2 : decide ((k : Int) < m) = false := decide_eq_false (by omega)
            have g4 : decide (k < m) = false := decide_eq_false s
            clear c0 c1 QL
            go_wp2_with fail
            refine wp_region_class (S := PastV wr) (by kernel_rfl) (by kernel_rfl) (Below.refl _ _).drew ?_
            repeat (go_big_quiet_step (fail))
            refine wpQuiet_nil ?_
            rintro _ ⟨d, rfl⟩
            have HD := Lib.hid (B.out.trans (show Below Vp.heap.size wr d.world from (show Below wr.heap.size wr d.world from d.holds).mono B.out.size))
            clear d0 d1 ne
            go_wp2
            go_roundw
            case rel => exact ⟨k + 1, by go_num, hlt, HD.out⟩
            case measure => simp [intOf]; omega
        · obtain rfl : k = 3 := by omega
          have HB0 := HB
          replace HB := B
          go_wp2_with fail
          (((with_reducible refine (crossed_any _).mono ?_); rintro e w9 ⟨rfl, hb9⟩); replace HB := Lib.hid (HB.out.trans (hb9.mono HB.out.size)); clear hb9)
          go_wp2
          go_ret
          exact ⟨rfl, HB0.out.trans (HB.out.mono HB0.out.size)⟩

theorem ls3_iff {a b c d e f : Int} : ls3 a b c d e f = true ↔ a < d ∨ (a = d ∧ (b < e ∨ (b = e ∧ c < f))) := by unfold ls3; exact decide_eq_true_iff
theorem ls3_not {a b c d e f : Int} : ls3 a b c d e f = false ↔ ¬ (a < d ∨ (a = d ∧ (b < e ∨ (b = e ∧ c < f)))) := by unfold ls3; exact decide_eq_false_iff_not
theorem q3_no {a b c d e f : Int} : q3 a b c d e f = false ↔ ¬ (a = d ∧ b = e ∧ c = f) := by rw [← q3_iff]; simp
theorem law_order (a1 a2 a3 b1 b2 b3 c1 c2 c3 : Int) (w : World) (h1 : I64 a1) (h2 : I64 a2) (h3 : I64 a3) :
    Calls Try.prog 7 #[.agg #[.int .i64 a1, .int .i64 a2, .int .i64 a3], .agg #[.int .i64 b1, .int .i64 b2, .int .i64 b3], .agg #[.int .i64 c1, .int .i64 c2, .int .i64 c3]] w fun e' w' => e' = .returned (.bool true) ∧ Below w.heap.size w w' := by
  refine law_order_at a1 a2 a3 b1 b2 b3 c1 c2 c3 _ _ _ _ _ _ w (Lib.hid fun W => less3_any a1 a2 a3 b1 b2 b3 W) (Lib.hid fun W => less3_any b1 b2 b3 a1 a2 a3 W) (Lib.hid fun W => less3_any b1 b2 b3 c1 c2 c3 W) (Lib.hid fun W => less3_any a1 a2 a3 c1 c2 c3 W)
    (Lib.hid fun g T W k => is3_one a1 a2 a3 g T W k) (Lib.hid fun W => axis_any a1 a2 a3 W h1 h2 h3) (Lib.hid (by have := axF_lt a1 a2 a3 3; omega)) (Lib.hid n3_iff.1)
    (Lib.hid fun i hi => ⟨bl_sq (axF_most a1 a2 a3 3 i hi).1, fun k => bl_sq_lt ((axF_most a1 a2 a3 3 i hi).2 k)⟩) ?_
  simp only [ls3_iff, ls3_not, q3_iff, q3_no]
  omega
end Go.Proofs.Ytmejipfejdckiaa
