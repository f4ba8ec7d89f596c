/-
  The reference limewashref10: parted, In, Overlap, Touch. (gen/MtS.py)
-/
import Derived.Test.YtllamakemgogaaaMtR
namespace Go.Proofs.Ytllamakemgogaaa
open Go.RowKit

/-- Whether an edge's greatest side parts. -/
def ptB (on : Bool) (v : Int) : Bool := decide (v < 0) || (on && decide (v = 0))
def gk (p1 p2 q1 q2 r1 r2 : Int) (F : Nat → Nat → Int) (n k : Nat) : Int := mx (fun i => eS (c3 p1 q1 r1 k) (c3 p2 q2 r2 k) (c3 q1 r1 p1 k) (c3 q2 r2 p2 k) (c3 r1 p1 q1 k) (c3 r2 p2 q2 k) (F i 0) (F i 1)) n
def ptd (on : Bool) (p1 p2 q1 q2 r1 r2 : Int) (F : Nat → Nat → Int) (n : Nat) : Bool := ptB on (gk p1 p2 q1 q2 r1 r2 F n 0) || ptB on (gk p1 p2 q1 q2 r1 r2 F n 1) || ptB on (gk p1 p2 q1 q2 r1 r2 F n 2)
theorem gk_bd (p1 p2 q1 q2 r1 r2 : Int) (F : Nat → Nat → Int) (n k : Nat) : -1 ≤ gk p1 p2 q1 q2 r1 r2 F n k ∧ gk p1 p2 q1 q2 r1 r2 F n k ≤ 1 := mx_bd (fun _ => eS_bd _ _ _ _ _ _ _ _) n
theorem rc_gk (p1 p2 q1 q2 r1 r2 : Int) (F : Nat → Nat → Int) (n : Nat) : rc p1 p2 q1 q2 r1 r2 F n = min (min (min 1 (gk p1 p2 q1 q2 r1 r2 F n 0)) (gk p1 p2 q1 q2 r1 r2 F n 1)) (gk p1 p2 q1 q2 r1 r2 F n 2) := rfl
theorem ptd_on (p1 p2 q1 q2 r1 r2 : Int) (F : Nat → Nat → Int) (n : Nat) : ptd true p1 p2 q1 q2 r1 r2 F n = !(rc p1 p2 q1 q2 r1 r2 F n == 1) := by
  rw [rc_gk]
  unfold ptd
  have h0 := gk_bd p1 p2 q1 q2 r1 r2 F n 0
  have h1 := gk_bd p1 p2 q1 q2 r1 r2 F n 1
  have h2 := gk_bd p1 p2 q1 q2 r1 r2 F n 2
  generalize gk p1 p2 q1 q2 r1 r2 F n 0 = x at *
  generalize gk p1 p2 q1 q2 r1 r2 F n 1 = y at *
  generalize gk p1 p2 q1 q2 r1 r2 F n 2 = z at *
  rcases (show x = -1 ∨ x = 0 ∨ x = 1 by omega) with rfl | rfl | rfl <;> rcases (show y = -1 ∨ y = 0 ∨ y = 1 by omega) with rfl | rfl | rfl <;> rcases (show z = -1 ∨ z = 0 ∨ z = 1 by omega) with rfl | rfl | rfl <;> decide
theorem ptd_off (p1 p2 q1 q2 r1 r2 : Int) (F : Nat → Nat → Int) (n : Nat) : ptd false p1 p2 q1 q2 r1 r2 F n = (rc p1 p2 q1 q2 r1 r2 F n == -1) := by
  rw [rc_gk]
  unfold ptd
  have h0 := gk_bd p1 p2 q1 q2 r1 r2 F n 0
  have h1 := gk_bd p1 p2 q1 q2 r1 r2 F n 1
  have h2 := gk_bd p1 p2 q1 q2 r1 r2 F n 2
  generalize gk p1 p2 q1 q2 r1 r2 F n 0 = x at *
  generalize gk p1 p2 q1 q2 r1 r2 F n 1 = y at *
  generalize gk p1 p2 q1 q2 r1 r2 F n 2 = z at *
  rcases (show x = -1 ∨ x = 0 ∨ x = 1 by omega) with rfl | rfl | rfl <;> rcases (show y = -1 ∨ y = 0 ∨ y = 1 by omega) with rfl | rfl | rfl <;> rcases (show z = -1 ∨ z = 0 ∨ z = 1 by omega) with rfl | rfl | rfl <;> decide
theorem ptd_yes (on : Bool) (p1 p2 q1 q2 r1 r2 : Int) (F : Nat → Nat → Int) (n k : Nat) (hk : k < 3) (h : ptB on (gk p1 p2 q1 q2 r1 r2 F n k) = true) : ptd on p1 p2 q1 q2 r1 r2 F n = true := by
  unfold ptd
  rcases (show k = 0 ∨ k = 1 ∨ k = 2 by omega) with rfl | rfl | rfl <;> rw [h] <;> simp
theorem ptd_no (on : Bool) (p1 p2 q1 q2 r1 r2 : Int) (F : Nat → Nat → Int) (n : Nat) (h : ∀ k, k < 3 → ptB on (gk p1 p2 q1 q2 r1 r2 F n k) = false) : ptd on p1 p2 q1 q2 r1 r2 F n = false := by
  unfold ptd
  rw [h 0 (by omega), h 1 (by omega), h 2 (by omega)]; rfl
theorem r1_eq (a1 a2 b1 b2 c1 c2 x y : Int) : min (min (min 1 ((fun k => eS (c3 a1 b1 c1 k) (c3 a2 b2 c2 k) (c3 b1 c1 a1 k) (c3 b2 c2 a2 k) (c3 c1 a1 b1 k) (c3 c2 a2 b2 k) x y) 0)) ((fun k => eS (c3 a1 b1 c1 k) (c3 a2 b2 c2 k) (c3 b1 c1 a1 k) (c3 b2 c2 a2 k) (c3 c1 a1 b1 k) (c3 c2 a2 b2 k) x y) 1)) ((fun k => eS (c3 a1 b1 c1 k) (c3 a2 b2 c2 k) (c3 b1 c1 a1 k) (c3 b2 c2 a2 k) (c3 c1 a1 b1 k) (c3 c2 a2 b2 k) x y) 2) = r1 a1 a2 b1 b2 c1 c2 x y := by
  show _ = min (min (min 1 (max (-1) (eS a1 a2 b1 b2 c1 c2 x y))) (max (-1) (eS b1 b2 c1 c2 a1 a2 x y))) (max (-1) (eS c1 c2 a1 a2 b1 b2 x y))
  show min (min (min 1 (eS a1 a2 b1 b2 c1 c2 x y)) (eS b1 b2 c1 c2 a1 a2 x y)) (eS c1 c2 a1 a2 b1 b2 x y) = _
  have h0 := eS_bd a1 a2 b1 b2 c1 c2 x y
  have h1 := eS_bd b1 b2 c1 c2 a1 a2 x y
  have h2 := eS_bd c1 c2 a1 a2 b1 b2 x y
  omega
def lk (s : Nat → Int) : Nat → Int
  | 0 => 1
  | k + 1 => min (lk s k) (s k)
theorem lk_bd {s : Nat → Int} (h : ∀ k, -1 ≤ s k ∧ s k ≤ 1) : ∀ k, -1 ≤ lk s k ∧ lk s k ≤ 1
  | 0 => by simp [lk]
  | k + 1 => by have := lk_bd h k; have := h k; unfold lk; omega
set_option maxRecDepth 100000 in
set_option maxHeartbeats 4000000 in
theorem rin_any (x y a1 a2 b1 b2 c1 c2 : Int) (w : World) :
    Calls Try.prog 28 #[.agg #[.int .i64 x, .int .i64 y], .agg #[.int .i64 a1, .int .i64 a2, .int .i64 b1, .int .i64 b2, .int .i64 c1, .int .i64 c2]] w fun e' w' => e' = .returned (.tuple #[.int .i64 (iV (s2 x y) (rT a1 a2 b1 b2 c1 c2) (r1 a1 a2 b1 b2 c1 c2 x y)), .int .i64 (iE (s2 x y) (rT a1 a2 b1 b2 c1 c2))]) ∧ Below w.heap.size w w' := by
  have HB := Lib.hid (Below.refl w.heap.size w)
  have S := Lib.hid (fun W => rsmall2_any x y W)
  have R1 := Lib.hid (fun W => rright_any a1 a2 b1 b2 c1 c2 W)
  cases hs : s2 x y with
  | false =>
    rw [hs] at S
    show Calls _ _ _ _ fun e' w' => e' = .returned (.tuple #[.int .i64 0, .int .i64 5]) ∧ _
    clear hs R1
    go_enter Try.func28, Try.ntmps28
    go_upto_region 1 with fail
    have hbz := below_new1 w (.cells #[.int .i64 x, .int .i64 y] 23)
    have zz : (w.alloc (.cells #[.int .i64 x, .int .i64 y] 23)).heap.size = w.heap.size + 1 := by simp
    have HB := Lib.hid hbz
    have kz := Lib.hid (Lok.new w 23 #[.int .i64 x, .int .i64 y])
    clear hbz
    generalize w.alloc (.cells #[.int .i64 x, .int .i64 y] 23) = Vz at *
    have hbu := below_new1 Vz (.cells #[.int .i64 a1, .int .i64 a2, .int .i64 b1, .int .i64 b2, .int .i64 c1, .int .i64 c2] 24)
    replace kz := Lib.hid (kz.out.keep hbu)
    have zu : (Vz.alloc (.cells #[.int .i64 a1, .int .i64 a2, .int .i64 b1, .int .i64 b2, .int .i64 c1, .int .i64 c2] 24)).heap.size = Vz.heap.size + 1 := by simp
    replace HB := Lib.hid (HB.out.trans (hbu.mono HB.out.size))
    have ku := Lib.hid (Lok.new Vz 24 #[.int .i64 a1, .int .i64 a2, .int .i64 b1, .int .i64 b2, .int .i64 c1, .int .i64 c2])
    clear hbu
    generalize Vz.alloc (.cells #[.int .i64 a1, .int .i64 a2, .int .i64 b1, .int .i64 b2, .int .i64 c1, .int .i64 c2] 24) = Vu at *
    rw [zz] at ku
    clear zz zu
    have z0 := kz.out.cell (i := 0) rfl
    have z1 := kz.out.cell (i := 1) rfl
    go_wp2_with fail
    clear z0 z1
    (((with_reducible refine (S.out _).mono ?_); rintro e w1 ⟨rfl, hb1⟩); replace HB := Lib.hid (HB.out.trans (hb1.mono HB.out.size)); replace kz := Lib.hid (kz.out.keep hb1); replace ku := Lib.hid (ku.out.keep hb1); clear hb1)
    go_wp2
    go_ret2
    exact ⟨rfl, HB.out⟩
  | true =>
    rw [hs] at S
    cases ha : rT a1 a2 b1 b2 c1 c2 with
    | false =>
      rw [ha] at R1
      show Calls _ _ _ _ fun e' w' => e' = .returned (.tuple #[.int .i64 0, .int .i64 1]) ∧ _
      clear hs ha
      go_enter Try.func28, Try.ntmps28
      go_upto_region 1 with fail
      have hbz := below_new1 w (.cells #[.int .i64 x, .int .i64 y] 23)
      have zz : (w.alloc (.cells #[.int .i64 x, .int .i64 y] 23)).heap.size = w.heap.size + 1 := by simp
      have HB := Lib.hid hbz
      have kz := Lib.hid (Lok.new w 23 #[.int .i64 x, .int .i64 y])
      clear hbz
      generalize w.alloc (.cells #[.int .i64 x, .int .i64 y] 23) = Vz at *
      have hbu := below_new1 Vz (.cells #[.int .i64 a1, .int .i64 a2, .int .i64 b1, .int .i64 b2, .int .i64 c1, .int .i64 c2] 24)
      replace kz := Lib.hid (kz.out.keep hbu)
      have zu : (Vz.alloc (.cells #[.int .i64 a1, .int .i64 a2, .int .i64 b1, .int .i64 b2, .int .i64 c1, .int .i64 c2] 24)).heap.size = Vz.heap.size + 1 := by simp
      replace HB := Lib.hid (HB.out.trans (hbu.mono HB.out.size))
      have ku := Lib.hid (Lok.new Vz 24 #[.int .i64 a1, .int .i64 a2, .int .i64 b1, .int .i64 b2, .int .i64 c1, .int .i64 c2])
      clear hbu
      generalize Vz.alloc (.cells #[.int .i64 a1, .int .i64 a2, .int .i64 b1, .int .i64 b2, .int .i64 c1, .int .i64 c2] 24) = Vu at *
      rw [zz] at ku
      clear zz zu
      have z0 := kz.out.cell (i := 0) rfl
      have z1 := kz.out.cell (i := 1) rfl
      go_wp2_with fail
      clear z0 z1
      (((with_reducible refine (S.out _).mono ?_); rintro e w1 ⟨rfl, hb1⟩); replace HB := Lib.hid (HB.out.trans (hb1.mono HB.out.size)); replace kz := Lib.hid (kz.out.keep hb1); replace ku := Lib.hid (ku.out.keep hb1); clear hb1)
      have u0 := ku.out.cell (i := 0) rfl
      have u1 := ku.out.cell (i := 1) rfl
      have u2 := ku.out.cell (i := 2) rfl
      have u3 := ku.out.cell (i := 3) rfl
      have u4 := ku.out.cell (i := 4) rfl
      have u5 := ku.out.cell (i := 5) rfl
      go_wp2_with fail
      clear u0 u1 u2 u3 u4 u5
      (((with_reducible refine (R1.out _).mono ?_); rintro e w2 ⟨rfl, hb2⟩); replace HB := Lib.hid (HB.out.trans (hb2.mono HB.out.size)); replace kz := Lib.hid (kz.out.keep hb2); replace ku := Lib.hid (ku.out.keep hb2); clear hb2)
      go_wp2
      go_ret2
      exact ⟨rfl, HB.out⟩
    | true =>
      rw [ha] at R1
      show Calls _ _ _ _ fun e' w' => e' = .returned (.tuple #[.int .i64 (r1 a1 a2 b1 b2 c1 c2 x y + 1), .int .i64 0]) ∧ _
      have SD := Lib.hid (fun k hk W => rsides_any a1 a2 b1 b2 c1 c2 x y k hk (rT_small ha) hs W)
      have e3 := r1_eq a1 a2 b1 b2 c1 c2 x y
      obtain ⟨sd, hsd⟩ : ∃ sd : Nat → Int, (fun k => eS (c3 a1 b1 c1 k) (c3 a2 b2 c2 k) (c3 b1 c1 a1 k) (c3 b2 c2 a2 k) (c3 c1 a1 b1 k) (c3 c2 a2 b2 k) x y) = sd := ⟨_, rfl⟩
      rw [hsd] at e3
      have hsb : ∀ k, -1 ≤ sd k ∧ sd k ≤ 1 := fun k => by rw [← congrFun hsd k]; exact eS_bd _ _ _ _ _ _ _ _
      have HSB := Lib.hid hsb
      replace e3 : lk sd 3 = r1 a1 a2 b1 b2 c1 c2 x y := e3
      have HS := Lib.hid (fun k => congrFun hsd k)
      rw [← e3]
      clear hs ha e3 hsd hsb
      go_enter Try.func28, Try.ntmps28
      go_upto_region 1 with fail
      have hbz := below_new1 w (.cells #[.int .i64 x, .int .i64 y] 23)
      have zz : (w.alloc (.cells #[.int .i64 x, .int .i64 y] 23)).heap.size = w.heap.size + 1 := by simp
      have HB := Lib.hid hbz
      have kz := Lib.hid (Lok.new w 23 #[.int .i64 x, .int .i64 y])
      clear hbz
      generalize w.alloc (.cells #[.int .i64 x, .int .i64 y] 23) = Vz at *
      have hbu := below_new1 Vz (.cells #[.int .i64 a1, .int .i64 a2, .int .i64 b1, .int .i64 b2, .int .i64 c1, .int .i64 c2] 24)
      replace kz := Lib.hid (kz.out.keep hbu)
      have zu : (Vz.alloc (.cells #[.int .i64 a1, .int .i64 a2, .int .i64 b1, .int .i64 b2, .int .i64 c1, .int .i64 c2] 24)).heap.size = Vz.heap.size + 1 := by simp
      replace HB := Lib.hid (HB.out.trans (hbu.mono HB.out.size))
      have ku := Lib.hid (Lok.new Vz 24 #[.int .i64 a1, .int .i64 a2, .int .i64 b1, .int .i64 b2, .int .i64 c1, .int .i64 c2])
      clear hbu
      generalize Vz.alloc (.cells #[.int .i64 a1, .int .i64 a2, .int .i64 b1, .int .i64 b2, .int .i64 c1, .int .i64 c2] 24) = Vu at *
      rw [zz] at ku
      clear zz zu
      have z0 := kz.out.cell (i := 0) rfl
      have z1 := kz.out.cell (i := 1) rfl
      go_wp2_with fail
      clear z0 z1
      (((with_reducible refine (S.out _).mono ?_); rintro e w1 ⟨rfl, hb1⟩); replace HB := Lib.hid (HB.out.trans (hb1.mono HB.out.size)); replace kz := Lib.hid (kz.out.keep hb1); replace ku := Lib.hid (ku.out.keep hb1); clear hb1)
      have u0 := ku.out.cell (i := 0) rfl
      have u1 := ku.out.cell (i := 1) rfl
      have u2 := ku.out.cell (i := 2) rfl
      have u3 := ku.out.cell (i := 3) rfl
      have u4 := ku.out.cell (i := 4) rfl
      have u5 := ku.out.cell (i := 5) rfl
      go_wp2_with fail
      clear u0 u1 u2 u3 u4 u5
      (((with_reducible refine (R1.out _).mono ?_); rintro e w2 ⟨rfl, hb2⟩); replace HB := Lib.hid (HB.out.trans (hb2.mono HB.out.size)); replace kz := Lib.hid (kz.out.keep hb2); replace ku := Lib.hid (ku.out.keep hb2); clear hb2)
      clear S R1
      have HB0 := HB
      clear HB
      go_wp2_with fail
      go_loopw [7, 6] (fun i g wr => ∃ j : Nat, i = .int .i64 j ∧ j ≤ 3 ∧ g = .int .i64 (lk sd j) ∧ Below w2.heap.size w2 wr) (fun i _ _ => 3 - (intOf i).toNat)
      case atStart => exact ⟨0, rfl, Nat.zero_le _, rfl, Below.refl _ _⟩
      case round =>
        obtain ⟨j, rfl, hj, rfl, hB⟩ := hrel
        replace ku := Lib.hid (ku.out.keep hB)
        replace kz := Lib.hid (kz.out.keep hB)
        have HB := Lib.hid (HB0.out.trans (hB.mono HB0.out.size))
        have HB' := Lib.hid hB
        clear hB
        by_cases hlt : j < 3
        · have CA := Lib.hid (fun W => SD.out j hlt W)
          rw [HS.out j] at CA
          have EM := Lib.hid (show lk sd (j + 1) = min (lk sd j) (sd j) from rfl)
          have bl := lk_bd HSB.out j
          have bs := HSB.out j
          generalize lk sd j = m at *
          generalize sd j = s at *
          have i1 : (j : Int) < 3 := by omega
          have u0 := ku.out.cell (i := 0) rfl
          have u1 := ku.out.cell (i := 1) rfl
          have u2 := ku.out.cell (i := 2) rfl
          have u3 := ku.out.cell (i := 3) rfl
          have u4 := ku.out.cell (i := 4) rfl
          have u5 := ku.out.cell (i := 5) rfl
          have z0 := kz.out.cell (i := 0) rfl
          have z1 := kz.out.cell (i := 1) rfl
          go_wp2_with fail
          clear u0 u1 u2 u3 u4 u5 z0 z1
          (with_reducible refine (CA.out _).mono ?_)
          rintro e w1 ⟨rfl, hb1⟩
          have HC := Lib.hid hb1
          replace HB := Lib.hid (HB.out.trans (hb1.mono HB.out.size))
          clear hb1 CA
          go_wp2
          go_roundw
          case rel => exact ⟨j + 1, by go_num, hlt, by rw [EM.out], HB'.out.trans (HC.out.mono HB'.out.size)⟩
          case measure => simp [intOf]; omega
        · obtain rfl : j = 3 := by omega
          have bl := lk_bd HSB.out 3
          generalize hm : lk sd 3 = m at *
          have HM := Lib.hid hm
          clear hm
          have wm : IntKind.i64.wrap (m + 1) = m + 1 := IntWalk.i64_in _ (by omega)
          clear HS
          go_wp2
          go_ret2
          exact ⟨by rw [HM.out]; rfl, HB.out⟩
end Go.Proofs.Ytllamakemgogaaa
