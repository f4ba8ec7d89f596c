/-
  Contracts of package meet: Right, the closure that tells a side, innermost. (gen/MtA.py)
-/
import Derived.Test.YtllamakemgogaaaSgB
import Derived.Test.YtllamakemgogaaaMtPl
import Derived.Test.YtllamakemgogaaaRel
namespace Go.Proofs.Ytllamakemgogaaa
open Go.RowKit

set_option maxRecDepth 100000 in
set_option maxHeartbeats 4000000 in
theorem right_any (a1 a2 b1 b2 c1 c2 : Int) (w : World) :
    Calls Try.prog 18 #[.agg #[.int .i64 a1, .int .i64 a2, .int .i64 b1, .int .i64 b2, .int .i64 c1, .int .i64 c2]] w fun e' w' => e' = .returned (.bool (rT a1 a2 b1 b2 c1 c2)) ∧ Below w.heap.size w w' := by
  have HB := Lib.hid (Below.refl w.heap.size w)
  obtain ⟨t, ht⟩ : ∃ t, (s2 a1 a2 && s2 b1 b2 && s2 c1 c2) = t := ⟨_, rfl⟩
  have P := Lib.hid (fun W => area_any a1 a2 b1 b2 c1 c2 t ht W)
  have e : rT a1 a2 b1 b2 c1 c2 = (vF t (ar a1 a2 b1 b2 c1 c2) != 0) := by
    unfold rT; rw [ht]; cases t <;> simp [vF]
  rw [e]
  generalize vF t (ar a1 a2 b1 b2 c1 c2) = n at *
  generalize rE t = e0 at *
  clear ht e
  go_enter Try.func18, Try.ntmps18
  go_upto_region 1 with fail
  have hbx := below_new1 w (.cells #[.int .i64 a1, .int .i64 a2, .int .i64 b1, .int .i64 b2, .int .i64 c1, .int .i64 c2] 24)
  have zx : (w.alloc (.cells #[.int .i64 a1, .int .i64 a2, .int .i64 b1, .int .i64 b2, .int .i64 c1, .int .i64 c2] 24)).heap.size = w.heap.size + 1 := by simp
  have HB := Lib.hid hbx
  have kx := Lib.hid (Lok.new w 24 #[.int .i64 a1, .int .i64 a2, .int .i64 b1, .int .i64 b2, .int .i64 c1, .int .i64 c2])
  clear hbx
  generalize w.alloc (.cells #[.int .i64 a1, .int .i64 a2, .int .i64 b1, .int .i64 b2, .int .i64 c1, .int .i64 c2] 24) = Vx at *
  clear zx
  have x0 := kx.out.cell (i := 0) rfl
  have x1 := kx.out.cell (i := 1) rfl
  have x2 := kx.out.cell (i := 2) rfl
  have x3 := kx.out.cell (i := 3) rfl
  have x4 := kx.out.cell (i := 4) rfl
  have x5 := kx.out.cell (i := 5) rfl
  go_wp2_with fail
  clear x0 x1 x2 x3 x4 x5
  (((with_reducible refine (P.out _).mono ?_); rintro e w1 ⟨rfl, hb1⟩); replace HB := Lib.hid (HB.out.trans (hb1.mono HB.out.size)); clear hb1)
  go_wp2
  go_ret
  exact ⟨rfl, HB.out⟩
set_option maxRecDepth 100000 in
set_option maxHeartbeats 4000000 in
theorem told_any (f1 f2 t1 t2 p1 p2 turn : Int) (hs : (s2 f1 f2 && s2 t1 t2 && s2 p1 p2) = true) (hu : -1 ≤ turn ∧ turn ≤ 1) (g4 g5 g7 : Nat) (w : World)
    (h4 : Lok w g4 23 #[.int .i64 f1, .int .i64 f2]) (h5 : Lok w g5 23 #[.int .i64 t1, .int .i64 t2]) (h7 : Lok w g7 3 #[.int .i64 turn]) :
    Calls Try.prog 78 #[.agg #[.int .i64 p1, .int .i64 p2], .pointer (some ⟨g4, 0, none⟩), .pointer (some ⟨g5, 0, none⟩), .pointer (some ⟨g7, 0, none⟩)] w fun e' w' => e' = .returned (.int .i64 (ordI (ar f1 f2 t1 t2 p1 p2) 0 * turn)) ∧ Below w.heap.size w w' := by
  have HB := Lib.hid (Below.refl w.heap.size w)
  have K4 := Lib.hid h4
  have K5 := Lib.hid h5
  have K7 := Lib.hid h7
  have P := Lib.hid (fun W => sideOf_any f1 f2 t1 t2 p1 p2 true hs W)
  rw [vF_yes, show rE true = 0 from rfl] at P
  have hn := ord_bd (ar f1 f2 t1 t2 p1 p2) 0
  generalize ordI (ar f1 f2 t1 t2 p1 p2) 0 = n at *
  have hw : IntKind.i64.wrap (n * turn) = n * turn := IntWalk.i64_in _ (by have := unit_mul hn hu; omega)
  clear hs hn hu h4 h5 h7
  go_enter Try.func78, Try.ntmps78
  go_upto_region 1 with fail
  have hbx := below_new1 w (.cells #[.int .i64 p1, .int .i64 p2] 23)
  replace K4 := Lib.hid (K4.out.keep hbx)
  replace K5 := Lib.hid (K5.out.keep hbx)
  replace K7 := Lib.hid (K7.out.keep hbx)
  have zx : (w.alloc (.cells #[.int .i64 p1, .int .i64 p2] 23)).heap.size = w.heap.size + 1 := by simp
  have HB := Lib.hid hbx
  have kx := Lib.hid (Lok.new w 23 #[.int .i64 p1, .int .i64 p2])
  clear hbx
  generalize w.alloc (.cells #[.int .i64 p1, .int .i64 p2] 23) = Vx at *
  clear zx
  have x0 := kx.out.cell (i := 0) rfl
  have x1 := kx.out.cell (i := 1) rfl
  have u0 := K4.out.cell (i := 0) rfl
  have u1 := K4.out.cell (i := 1) rfl
  have v0 := K5.out.cell (i := 0) rfl
  have v1 := K5.out.cell (i := 1) rfl
  go_wp2_with fail
  clear x0 x1 u0 u1 v0 v1
  (((with_reducible refine (P.out _).mono ?_); rintro e w1 ⟨rfl, hb1⟩); replace HB := Lib.hid (HB.out.trans (hb1.mono HB.out.size)); replace K7 := Lib.hid (K7.out.keep hb1); clear hb1)
  have y0 := K7.out.cell (i := 0) rfl
  go_wp2
  go_ret
  exact ⟨rfl, HB.out⟩
set_option maxRecDepth 100000 in
set_option maxHeartbeats 4000000 in
theorem innermost_any (sd : Nat → Int) (q4 q5 q7 : Value) (A : Option Addr) (n c : Nat) (F : Nat → Nat → Int) (w : World) (hr : RowK w A n 2 F) (hn : n ≤ 1000000) (hsd : ∀ i, -1 ≤ sd i ∧ sd i ≤ 1)
    (H : ∀ W, Below w.heap.size w W → ∀ i, i < n → Calls Try.prog 78 #[.agg #[.int .i64 (F i 0), .int .i64 (F i 1)], q4, q5, q7] W fun e w' => e = .returned (.int .i64 (sd i)) ∧ Below W.heap.size W w') :
    Calls Try.prog 64 #[.func (.func 78) #[] #[q4, q5, q7], .slice A n c] w fun e w' => e = .returned (.int .i64 (mx sd n)) ∧ Below w.heap.size w w' := by
  have R := Lib.hid hr
  have HH := Lib.hid H
  have HS := Lib.hid hsd
  clear hr H hsd
  have wn : ((n : Nat) : Int) ≤ 1000000 := by omega
  go_enter Try.func64, Try.ntmps64
  go_wp2_with fail
  go_loopw [10, 5] (fun x g wr => ∃ k : Nat, x = .int .i64 k ∧ k ≤ n ∧ g = .int .i64 (mx sd k) ∧ Below w.heap.size w wr) (fun x _ _ => n - (intOf x).toNat)
  case atStart => exact ⟨0, rfl, Nat.zero_le _, rfl, by (repeat (first | exact Below.refl _ _ | assumption | refine Below.drew ?_ | refine below_drewN ?_ _ | refine Below.setCell ?_ (by first | omega | (simp; done) | (simp; omega)) _ | refine Below.alloc ?_ (by first | omega | (simp; done) | (simp; omega)) _))⟩
  case round =>
    obtain ⟨k, rfl, hk, rfl, hB⟩ := hrel
    have HB := Lib.hid hB
    have hm := mx_bd HS.out k
    by_cases hlt : k < n
    · obtain ⟨b, o, rfl, hb, hc⟩ := (R.out.keep hB).at hlt
      have c0 := hc k hlt 0 (by omega)
      have c1 := hc k hlt 1 (by omega)
      rw [Nat.add_zero] at c0
      rw [← Nat.add_assoc] at c1
      have C := Lib.hid (fun W hb => HH.out W hb k hlt)
      have hs := HS.out k
      have em : mx sd (k + 1) = max (mx sd k) (sd k) := rfl
      generalize F k 0 = x at *
      generalize F k 1 = y at *
      generalize sd k = s at *
      have EM := Lib.hid em
      clear hc hB em
      generalize mx sd k = m at *
      have i0 : (0 : Int) ≤ (k : Int) := by omega
      have i1 : (k : Int) < (n : Int) := by omega
      have i2 : ((k : Int)).toNat = k := by omega
      go_upto_region 5 with fail
      have hbp := below_new1 wr (.cells #[.int .i64 x, .int .i64 y] 23)
      have zp : (wr.alloc (.cells #[.int .i64 x, .int .i64 y] 23)).heap.size = wr.heap.size + 1 := by simp
      replace HB := Lib.hid (HB.out.trans (hbp.mono HB.out.size))
      have kp := Lib.hid (Lok.new wr 23 #[.int .i64 x, .int .i64 y])
      clear hbp
      generalize wr.alloc (.cells #[.int .i64 x, .int .i64 y] 23) = Vp at *
      clear zp
      clear c0 c1
      have c0 := kp.out.cell (i := 0) rfl
      have c1 := kp.out.cell (i := 1) rfl
      go_wp2_with fail
      (((with_reducible refine (C.out _ HB.out).mono ?_); rintro e w1 ⟨rfl, hb1⟩); replace HB := Lib.hid (HB.out.trans (hb1.mono HB.out.size)); clear hb1)
      clear C c0 c1
      go_wp2
      go_roundw
      case rel => exact ⟨k + 1, by go_num, hlt, by rw [EM.out], HB.out⟩
      case measure => simp [intOf]; omega
    · obtain rfl : k = n := by omega
      clear hB
      go_wp2
      go_ret
      exact ⟨rfl, HB.out⟩
end Go.Proofs.Ytllamakemgogaaa
