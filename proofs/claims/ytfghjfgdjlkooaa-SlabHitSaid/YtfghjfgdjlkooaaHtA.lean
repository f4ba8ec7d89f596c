/-
  Contracts of package hit: Side, the closure that tells on which side of a way an edge passes, oneWay. (gen/HtA.py)
-/
import Derived.Test.YtfghjfgdjlkooaaSgD
import Derived.Test.YtfghjfgdjlkooaaCmpI
import Derived.Test.YtfghjfgdjlkooaaHtG
namespace Go.Proofs.Ytfghjfgdjlkooaa
open Go.RowKit

set_option maxRecDepth 100000 in
set_option maxHeartbeats 4000000 in
theorem side_any (a1 a2 a3 p1 p2 p3 q1 q2 q3 r1 r2 r3 : Int) (t : Bool) (ht : (s3 p1 p2 p3 && s3 q1 q2 q3 && s3 r1 r2 r3 && s3 a1 a2 a3) = t) (w : World) :
    Calls Try.prog 32 #[.agg #[.int .i64 a1, .int .i64 a2, .int .i64 a3], .agg #[.int .i64 p1, .int .i64 p2, .int .i64 p3, .int .i64 q1, .int .i64 q2, .int .i64 q3, .int .i64 r1, .int .i64 r2, .int .i64 r3]] w fun e' w' => e' = .returned (.tuple #[.int .i64 (ordI (vF t (vo p1 p2 p3 q1 q2 q3 r1 r2 r3 a1 a2 a3)) 0), .int .i64 (rE t)]) ∧ Below w.heap.size w w' := by
  have HB := Lib.hid (Below.refl w.heap.size w)
  have V := Lib.hid (fun W => volume_any p1 p2 p3 q1 q2 q3 r1 r2 r3 a1 a2 a3 t ht W)
  generalize vF t (vo p1 p2 p3 q1 q2 q3 r1 r2 r3 a1 a2 a3) = n at *
  generalize rE t = e0 at *
  have C := Lib.hid (fun W => compare_int n 0 W)
  generalize ordI n 0 = m at *
  clear ht
  go_enter Try.func32, Try.ntmps32
  go_upto_region 1 with fail
  have hbx := below_new1 w (.cells #[.int .i64 a1, .int .i64 a2, .int .i64 a3] 23)
  have zx : (w.alloc (.cells #[.int .i64 a1, .int .i64 a2, .int .i64 a3] 23)).heap.size = w.heap.size + 1 := by simp
  have HB := Lib.hid hbx
  have kx := Lib.hid (Lok.new w 23 #[.int .i64 a1, .int .i64 a2, .int .i64 a3])
  clear hbx
  generalize w.alloc (.cells #[.int .i64 a1, .int .i64 a2, .int .i64 a3] 23) = Vx at *
  have hby := below_new1 Vx (.cells #[.int .i64 p1, .int .i64 p2, .int .i64 p3, .int .i64 q1, .int .i64 q2, .int .i64 q3, .int .i64 r1, .int .i64 r2, .int .i64 r3] 43)
  replace kx := Lib.hid (kx.out.keep hby)
  have zy : (Vx.alloc (.cells #[.int .i64 p1, .int .i64 p2, .int .i64 p3, .int .i64 q1, .int .i64 q2, .int .i64 q3, .int .i64 r1, .int .i64 r2, .int .i64 r3] 43)).heap.size = Vx.heap.size + 1 := by simp
  replace HB := Lib.hid (HB.out.trans (hby.mono HB.out.size))
  have ky := Lib.hid (Lok.new Vx 43 #[.int .i64 p1, .int .i64 p2, .int .i64 p3, .int .i64 q1, .int .i64 q2, .int .i64 q3, .int .i64 r1, .int .i64 r2, .int .i64 r3])
  clear hby
  generalize Vx.alloc (.cells #[.int .i64 p1, .int .i64 p2, .int .i64 p3, .int .i64 q1, .int .i64 q2, .int .i64 q3, .int .i64 r1, .int .i64 r2, .int .i64 r3] 43) = Vy at *
  rw [zx] at ky
  clear zx zy
  have x0 := kx.out.cell (i := 0) rfl
  have x1 := kx.out.cell (i := 1) rfl
  have x2 := kx.out.cell (i := 2) rfl
  have y0 := ky.out.cell (i := 0) rfl
  have y1 := ky.out.cell (i := 1) rfl
  have y2 := ky.out.cell (i := 2) rfl
  have y3 := ky.out.cell (i := 3) rfl
  have y4 := ky.out.cell (i := 4) rfl
  have y5 := ky.out.cell (i := 5) rfl
  have y6 := ky.out.cell (i := 6) rfl
  have y7 := ky.out.cell (i := 7) rfl
  have y8 := ky.out.cell (i := 8) rfl
  go_wp2_with fail
  clear x0 x1 x2 y0 y1 y2 y3 y4 y5 y6 y7 y8
  (((with_reducible refine (V.out _).mono ?_); rintro e w1 ⟨rfl, hb1⟩); replace HB := Lib.hid (HB.out.trans (hb1.mono HB.out.size)); replace kx := Lib.hid (kx.out.keep hb1); replace ky := Lib.hid (ky.out.keep hb1); clear hb1)
  go_wp2_with fail
  (((with_reducible refine (C.out _).mono ?_); rintro e w2 ⟨rfl, hb2⟩); replace HB := Lib.hid (HB.out.trans (hb2.mono HB.out.size)); replace kx := Lib.hid (kx.out.keep hb2); replace ky := Lib.hid (ky.out.keep hb2); clear hb2)
  go_wp2
  go_ret2
  exact ⟨rfl, HB.out⟩
set_option maxRecDepth 100000 in
set_option maxHeartbeats 4000000 in
theorem passing_any (a1 a2 a3 b1 b2 b3 p1 p2 p3 q1 q2 q3 : Int) (ht : (s3 a1 a2 a3 && s3 b1 b2 b3 && s3 p1 p2 p3 && s3 q1 q2 q3) = true) (ga gb : Nat) (w : World) (ha : Lok w ga 23 #[.int .i64 a1, .int .i64 a2, .int .i64 a3]) (hb : Lok w gb 23 #[.int .i64 b1, .int .i64 b2, .int .i64 b3]) :
    Calls Try.prog 33 #[.agg #[.int .i64 p1, .int .i64 p2, .int .i64 p3], .agg #[.int .i64 q1, .int .i64 q2, .int .i64 q3], .pointer (some ⟨ga, 0, none⟩), .pointer (some ⟨gb, 0, none⟩)] w fun e' w' => e' = .returned (.int .i64 (ordI (vo a1 a2 a3 b1 b2 b3 p1 p2 p3 q1 q2 q3) 0)) ∧ Below w.heap.size w w' := by
  have HB := Lib.hid (Below.refl w.heap.size w)
  have V := Lib.hid (fun W => volume_any a1 a2 a3 b1 b2 b3 p1 p2 p3 q1 q2 q3 true ht W)
  rw [vF_yes, show rE true = 0 from rfl] at V
  generalize vo a1 a2 a3 b1 b2 b3 p1 p2 p3 q1 q2 q3 = n at *
  have C := Lib.hid (fun W => compare_int n 0 W)
  generalize ordI n 0 = m at *
  have ka := Lib.hid ha
  have kb := Lib.hid hb
  clear ht ha hb
  go_enter Try.func33, Try.ntmps33
  go_upto_region 1 with fail
  have hbx := below_new1 w (.cells #[.int .i64 p1, .int .i64 p2, .int .i64 p3] 23)
  replace ka := Lib.hid (ka.out.keep hbx)
  replace kb := Lib.hid (kb.out.keep hbx)
  have zx : (w.alloc (.cells #[.int .i64 p1, .int .i64 p2, .int .i64 p3] 23)).heap.size = w.heap.size + 1 := by simp
  have HB := Lib.hid hbx
  have kx := Lib.hid (Lok.new w 23 #[.int .i64 p1, .int .i64 p2, .int .i64 p3])
  clear hbx
  generalize w.alloc (.cells #[.int .i64 p1, .int .i64 p2, .int .i64 p3] 23) = Vx at *
  have hby := below_new1 Vx (.cells #[.int .i64 q1, .int .i64 q2, .int .i64 q3] 23)
  replace kx := Lib.hid (kx.out.keep hby)
  replace ka := Lib.hid (ka.out.keep hby)
  replace kb := Lib.hid (kb.out.keep hby)
  have zy : (Vx.alloc (.cells #[.int .i64 q1, .int .i64 q2, .int .i64 q3] 23)).heap.size = Vx.heap.size + 1 := by simp
  replace HB := Lib.hid (HB.out.trans (hby.mono HB.out.size))
  have ky := Lib.hid (Lok.new Vx 23 #[.int .i64 q1, .int .i64 q2, .int .i64 q3])
  clear hby
  generalize Vx.alloc (.cells #[.int .i64 q1, .int .i64 q2, .int .i64 q3] 23) = Vy at *
  rw [zx] at ky
  clear zx zy
  have a0 := ka.out.cell (i := 0) rfl
  have a1 := ka.out.cell (i := 1) rfl
  have a2 := ka.out.cell (i := 2) rfl
  have b0 := kb.out.cell (i := 0) rfl
  have b1 := kb.out.cell (i := 1) rfl
  have b2 := kb.out.cell (i := 2) rfl
  have x0 := kx.out.cell (i := 0) rfl
  have x1 := kx.out.cell (i := 1) rfl
  have x2 := kx.out.cell (i := 2) rfl
  have y0 := ky.out.cell (i := 0) rfl
  have y1 := ky.out.cell (i := 1) rfl
  have y2 := ky.out.cell (i := 2) rfl
  go_wp2_with fail
  clear a0 a1 a2 b0 b1 b2 x0 x1 x2 y0 y1 y2
  (((with_reducible refine (V.out _).mono ?_); rintro e w1 ⟨rfl, hb1⟩); replace HB := Lib.hid (HB.out.trans (hb1.mono HB.out.size)); replace kx := Lib.hid (kx.out.keep hb1); replace ky := Lib.hid (ky.out.keep hb1); replace ka := Lib.hid (ka.out.keep hb1); replace kb := Lib.hid (kb.out.keep hb1); clear hb1)
  go_wp2_with fail
  (((with_reducible refine (C.out _).mono ?_); rintro e w2 ⟨rfl, hb2⟩); replace HB := Lib.hid (HB.out.trans (hb2.mono HB.out.size)); replace kx := Lib.hid (kx.out.keep hb2); replace ky := Lib.hid (ky.out.keep hb2); replace ka := Lib.hid (ka.out.keep hb2); replace kb := Lib.hid (kb.out.keep hb2); clear hb2)
  go_wp2
  go_ret
  exact ⟨rfl, HB.out⟩
/-- Behind k edges: the least and the greatest side. -/
def owL (m0 m1 m2 : Int) : Nat → Int
  | 0 => 0
  | k + 1 => min (owL m0 m1 m2 k) (pt m0 m1 m2 k)
def owG (m0 m1 m2 : Int) : Nat → Int
  | 0 => 0
  | k + 1 => max (owG m0 m1 m2 k) (pt m0 m1 m2 k)
def owB (m0 m1 m2 : Int) : Bool := (owL m0 m1 m2 3 == 0) || (owG m0 m1 m2 3 == 0)
theorem owL_3 (m0 m1 m2 : Int) : owL m0 m1 m2 3 = min (min (min 0 m0) m1) m2 := rfl
theorem owG_3 (m0 m1 m2 : Int) : owG m0 m1 m2 3 = max (max (max 0 m0) m1) m2 := rfl
theorem ord_sign (n : Int) : (0 ≤ ordI n 0 ↔ 0 ≤ n) ∧ (ordI n 0 ≤ 0 ↔ n ≤ 0) := by
  rcases ordI_ways n 0 with ⟨h, e⟩ | ⟨h, e⟩ | ⟨h, e⟩ <;> rw [e] <;> omega
theorem owL_zero (m0 m1 m2 : Int) : owL m0 m1 m2 3 = 0 ↔ 0 ≤ m0 ∧ 0 ≤ m1 ∧ 0 ≤ m2 := by rw [owL_3]; omega
theorem owG_zero (m0 m1 m2 : Int) : owG m0 m1 m2 3 = 0 ↔ m0 ≤ 0 ∧ m1 ≤ 0 ∧ m2 ≤ 0 := by rw [owG_3]; omega
theorem owB_ord (n0 n1 n2 : Int) : owB (ordI n0 0) (ordI n1 0) (ordI n2 0) = (decide (0 ≤ n0 ∧ 0 ≤ n1 ∧ 0 ≤ n2) || decide (n0 ≤ 0 ∧ n1 ≤ 0 ∧ n2 ≤ 0)) := by
  refine bool_same ?_
  unfold owB
  rw [Bool.or_eq_true, Bool.or_eq_true, beq_iff_eq, beq_iff_eq, decide_eq_true_iff, decide_eq_true_iff, owL_zero, owG_zero, (ord_sign n0).1, (ord_sign n1).1, (ord_sign n2).1, (ord_sign n0).2, (ord_sign n1).2, (ord_sign n2).2]
set_option maxRecDepth 100000 in
set_option maxHeartbeats 8000000 in
theorem oneWay_any (p1 p2 p3 q1 q2 q3 r1 r2 r3 m0 m1 m2 : Int) (qa qb : Value) (w : World)
    (H0 : ∀ W, Below w.heap.size w W → Calls Try.prog 33 #[.agg #[.int .i64 p1, .int .i64 p2, .int .i64 p3], .agg #[.int .i64 q1, .int .i64 q2, .int .i64 q3], qa, qb] W fun e' w' => e' = .returned (.int .i64 m0) ∧ Below W.heap.size W w')
    (H1 : ∀ W, Below w.heap.size w W → Calls Try.prog 33 #[.agg #[.int .i64 q1, .int .i64 q2, .int .i64 q3], .agg #[.int .i64 r1, .int .i64 r2, .int .i64 r3], qa, qb] W fun e' w' => e' = .returned (.int .i64 m1) ∧ Below W.heap.size W w')
    (H2 : ∀ W, Below w.heap.size w W → Calls Try.prog 33 #[.agg #[.int .i64 r1, .int .i64 r2, .int .i64 r3], .agg #[.int .i64 p1, .int .i64 p2, .int .i64 p3], qa, qb] W fun e' w' => e' = .returned (.int .i64 m2) ∧ Below W.heap.size W w') :
    Calls Try.prog 36 #[.agg #[.int .i64 p1, .int .i64 p2, .int .i64 p3, .int .i64 q1, .int .i64 q2, .int .i64 q3, .int .i64 r1, .int .i64 r2, .int .i64 r3], .func (.func 33) #[] #[qa, qb]] w fun e' w' => e' = .returned (.bool (owB m0 m1 m2)) ∧ Below w.heap.size w w' := by
  have HB := Lib.hid (Below.refl w.heap.size w)
  have K0 := Lib.hid H0
  have K1 := Lib.hid H1
  have K2 := Lib.hid H2
  clear H0 H1 H2
  obtain ⟨z, hz⟩ : ∃ z, owB m0 m1 m2 = z := ⟨_, rfl⟩
  rw [hz]
  replace hz := Lib.hid hz
  go_enter Try.func36, Try.ntmps36
  go_upto_region 1 with fail
  have hbt := below_new1 w (.cells #[.int .i64 p1, .int .i64 p2, .int .i64 p3, .int .i64 q1, .int .i64 q2, .int .i64 q3, .int .i64 r1, .int .i64 r2, .int .i64 r3] 43)
  have zt : (w.alloc (.cells #[.int .i64 p1, .int .i64 p2, .int .i64 p3, .int .i64 q1, .int .i64 q2, .int .i64 q3, .int .i64 r1, .int .i64 r2, .int .i64 r3] 43)).heap.size = w.heap.size + 1 := by simp
  have HB := Lib.hid hbt
  have kt := Lib.hid (Lok.new w 43 #[.int .i64 p1, .int .i64 p2, .int .i64 p3, .int .i64 q1, .int .i64 q2, .int .i64 q3, .int .i64 r1, .int .i64 r2, .int .i64 r3])
  clear hbt
  generalize w.alloc (.cells #[.int .i64 p1, .int .i64 p2, .int .i64 p3, .int .i64 q1, .int .i64 q2, .int .i64 q3, .int .i64 r1, .int .i64 r2, .int .i64 r3] 43) = Vt at *
  clear zt
  have HB0 := HB
  have kt0 := kt
  clear HB kt
  have t0 := kt0.out.cell (i := 0) rfl
  have t1 := kt0.out.cell (i := 1) rfl
  have t2 := kt0.out.cell (i := 2) rfl
  have t3 := kt0.out.cell (i := 3) rfl
  have t4 := kt0.out.cell (i := 4) rfl
  have t5 := kt0.out.cell (i := 5) rfl
  have t6 := kt0.out.cell (i := 6) rfl
  have t7 := kt0.out.cell (i := 7) rfl
  have t8 := kt0.out.cell (i := 8) rfl
  go_wp2_with fail
  clear t0 t1 t2 t3 t4 t5 t6 t7 t8
  go_loopw [5, 6, 11] (fun x y i wr => ∃ k : Nat, x = .int .i64 (owL m0 m1 m2 k) ∧ y = .int .i64 (owG m0 m1 m2 k) ∧ i = .int .i64 k ∧ k ≤ 3 ∧ Below Vt.heap.size Vt wr) (fun _ _ i _ => 3 - (intOf i).toNat)
  case atStart => exact ⟨0, rfl, rfl, rfl, Nat.zero_le _, Below.refl _ _⟩
  case round =>
    obtain ⟨k, rfl, rfl, rfl, hk, hB⟩ := hrel
    have HB := Lib.hid (HB0.out.trans (hB.mono HB0.out.size))
    have kt := Lib.hid (kt0.out.keep hB)
    have B0 := Lib.hid hB
    clear hB
    rcases (show k = 0 ∨ k = 1 ∨ k = 2 ∨ k = 3 by omega) with rfl | rfl | rfl | rfl
    · have ix : ∀ W, (Instr.index 43 (.agg #[.int .i64 p1, .int .i64 p2, .int .i64 p3, .int .i64 q1, .int .i64 q2, .int .i64 q3, .int .i64 r1, .int .i64 r2, .int .i64 r3]) (.int .i64 0)).run Try.prog W = .ok (.agg #[.int .i64 p1, .int .i64 p2, .int .i64 p3]) W := fun _ => by kernel_rfl
      have H := Lib.hid (fun W h => K0.out W (HB.out.trans (Below.mono h HB.out.size)))
      go_upto_region 5 with fail
      have hbp := below_new1 wr (.cells #[.int .i64 p1, .int .i64 p2, .int .i64 p3] 23)
      have B1 := Lib.hid (B0.out.trans (hbp.mono B0.out.size))
      replace HB := Lib.hid (HB.out.trans (hbp.mono HB.out.size))
      replace kt := Lib.hid (kt.out.keep hbp)
      have kp := Lib.hid (Lok.new wr 23 #[.int .i64 p1, .int .i64 p2, .int .i64 p3])
      replace H := Lib.hid (fun W h => H.out W (hbp.trans (Below.mono h hbp.size)))
      clear hbp
      generalize wr.alloc (.cells #[.int .i64 p1, .int .i64 p2, .int .i64 p3] 23) = Vp at *
      generalize wr.heap.size = gp at *
      have HC := Lib.hid (fun D : Of (PastV Vp) => H.out D.world (show Below Vp.heap.size Vp D.world from D.holds))
      have qt0 : ∀ D : Of (PastV Vp), _ := fun D => (kt.out.keep (show Below Vp.heap.size Vp D.world from D.holds)).cell (i := 0) rfl
      have qt1 : ∀ D : Of (PastV Vp), _ := fun D => (kt.out.keep (show Below Vp.heap.size Vp D.world from D.holds)).cell (i := 1) rfl
      have qt2 : ∀ D : Of (PastV Vp), _ := fun D => (kt.out.keep (show Below Vp.heap.size Vp D.world from D.holds)).cell (i := 2) rfl
      have qt3 : ∀ D : Of (PastV Vp), _ := fun D => (kt.out.keep (show Below Vp.heap.size Vp D.world from D.holds)).cell (i := 3) rfl
      have qt4 : ∀ D : Of (PastV Vp), _ := fun D => (kt.out.keep (show Below Vp.heap.size Vp D.world from D.holds)).cell (i := 4) rfl
      have qt5 : ∀ D : Of (PastV Vp), _ := fun D => (kt.out.keep (show Below Vp.heap.size Vp D.world from D.holds)).cell (i := 5) rfl
      have qt6 : ∀ D : Of (PastV Vp), _ := fun D => (kt.out.keep (show Below Vp.heap.size Vp D.world from D.holds)).cell (i := 6) rfl
      have qt7 : ∀ D : Of (PastV Vp), _ := fun D => (kt.out.keep (show Below Vp.heap.size Vp D.world from D.holds)).cell (i := 7) rfl
      have qt8 : ∀ D : Of (PastV Vp), _ := fun D => (kt.out.keep (show Below Vp.heap.size Vp D.world from D.holds)).cell (i := 8) rfl
      have qp0 : ∀ D : Of (PastV Vp), _ := fun D => (kp.out.keep (show Below Vp.heap.size Vp D.world from D.holds)).cell (i := 0) rfl
      have qp1 : ∀ D : Of (PastV Vp), _ := fun D => (kp.out.keep (show Below Vp.heap.size Vp D.world from D.holds)).cell (i := 1) rfl
      have qp2 : ∀ D : Of (PastV Vp), _ := fun D => (kp.out.keep (show Below Vp.heap.size Vp D.world from D.holds)).cell (i := 2) rfl
      have ST := Lib.hid (pastV_stays Vp)
      have ne : Nonempty (Of (PastV Vp)) := ⟨⟨Vp, Below.refl _ _⟩⟩
      refine wp_region_class (S := PastV Vp) (by kernel_rfl) (by kernel_rfl) (Below.refl _ _).drew ?_
      repeat (go_big_quiet_step (first | (go_at_call 33; first | (with_reducible exact class_call ST.out _ (HC.out _)))))
      refine wpQuiet_nil ?_
      rintro _ ⟨D, rfl⟩
      have hD : Below Vp.heap.size Vp D.world := D.holds
      have B2 := Lib.hid (B1.out.trans (hD.mono B1.out.size))
      replace HB := Lib.hid (HB.out.trans (hD.mono HB.out.size))
      replace kt := Lib.hid (kt.out.keep hD)
      replace kp := Lib.hid (kp.out.keep hD)
      generalize D.world = v1 at *
      clear qt0 qt1 qt2 qt3 qt4 qt5 qt6 qt7 qt8 qp0 qp1 qp2 ne ST hD
      go_wp2
      go_roundw
      case rel => exact ⟨1, rfl, rfl, by go_num, by omega, B2.out⟩
      case measure => simp [intOf]
    · have ix : ∀ W, (Instr.index 43 (.agg #[.int .i64 p1, .int .i64 p2, .int .i64 p3, .int .i64 q1, .int .i64 q2, .int .i64 q3, .int .i64 r1, .int .i64 r2, .int .i64 r3]) (.int .i64 1)).run Try.prog W = .ok (.agg #[.int .i64 q1, .int .i64 q2, .int .i64 q3]) W := fun _ => by kernel_rfl
      have H := Lib.hid (fun W h => K1.out W (HB.out.trans (Below.mono h HB.out.size)))
      go_upto_region 5 with fail
      have hbp := below_new1 wr (.cells #[.int .i64 q1, .int .i64 q2, .int .i64 q3] 23)
      have B1 := Lib.hid (B0.out.trans (hbp.mono B0.out.size))
      replace HB := Lib.hid (HB.out.trans (hbp.mono HB.out.size))
      replace kt := Lib.hid (kt.out.keep hbp)
      have kp := Lib.hid (Lok.new wr 23 #[.int .i64 q1, .int .i64 q2, .int .i64 q3])
      replace H := Lib.hid (fun W h => H.out W (hbp.trans (Below.mono h hbp.size)))
      clear hbp
      generalize wr.alloc (.cells #[.int .i64 q1, .int .i64 q2, .int .i64 q3] 23) = Vp at *
      generalize wr.heap.size = gp at *
      have HC := Lib.hid (fun D : Of (PastV Vp) => H.out D.world (show Below Vp.heap.size Vp D.world from D.holds))
      have qt0 : ∀ D : Of (PastV Vp), _ := fun D => (kt.out.keep (show Below Vp.heap.size Vp D.world from D.holds)).cell (i := 0) rfl
      have qt1 : ∀ D : Of (PastV Vp), _ := fun D => (kt.out.keep (show Below Vp.heap.size Vp D.world from D.holds)).cell (i := 1) rfl
      have qt2 : ∀ D : Of (PastV Vp), _ := fun D => (kt.out.keep (show Below Vp.heap.size Vp D.world from D.holds)).cell (i := 2) rfl
      have qt3 : ∀ D : Of (PastV Vp), _ := fun D => (kt.out.keep (show Below Vp.heap.size Vp D.world from D.holds)).cell (i := 3) rfl
      have qt4 : ∀ D : Of (PastV Vp), _ := fun D => (kt.out.keep (show Below Vp.heap.size Vp D.world from D.holds)).cell (i := 4) rfl
      have qt5 : ∀ D : Of (PastV Vp), _ := fun D => (kt.out.keep (show Below Vp.heap.size Vp D.world from D.holds)).cell (i := 5) rfl
      have qt6 : ∀ D : Of (PastV Vp), _ := fun D => (kt.out.keep (show Below Vp.heap.size Vp D.world from D.holds)).cell (i := 6) rfl
      have qt7 : ∀ D : Of (PastV Vp), _ := fun D => (kt.out.keep (show Below Vp.heap.size Vp D.world from D.holds)).cell (i := 7) rfl
      have qt8 : ∀ D : Of (PastV Vp), _ := fun D => (kt.out.keep (show Below Vp.heap.size Vp D.world from D.holds)).cell (i := 8) rfl
      have qp0 : ∀ D : Of (PastV Vp), _ := fun D => (kp.out.keep (show Below Vp.heap.size Vp D.world from D.holds)).cell (i := 0) rfl
      have qp1 : ∀ D : Of (PastV Vp), _ := fun D => (kp.out.keep (show Below Vp.heap.size Vp D.world from D.holds)).cell (i := 1) rfl
      have qp2 : ∀ D : Of (PastV Vp), _ := fun D => (kp.out.keep (show Below Vp.heap.size Vp D.world from D.holds)).cell (i := 2) rfl
      have ST := Lib.hid (pastV_stays Vp)
      have ne : Nonempty (Of (PastV Vp)) := ⟨⟨Vp, Below.refl _ _⟩⟩
      refine wp_region_class (S := PastV Vp) (by kernel_rfl) (by kernel_rfl) (Below.refl _ _).drew ?_
      repeat (go_big_quiet_step (first | (go_at_call 33; first | (with_reducible exact class_call ST.out _ (HC.out _)))))
      refine wpQuiet_nil ?_
      rintro _ ⟨D, rfl⟩
      have hD : Below Vp.heap.size Vp D.world := D.holds
      have B2 := Lib.hid (B1.out.trans (hD.mono B1.out.size))
      replace HB := Lib.hid (HB.out.trans (hD.mono HB.out.size))
      replace kt := Lib.hid (kt.out.keep hD)
      replace kp := Lib.hid (kp.out.keep hD)
      generalize D.world = v1 at *
      clear qt0 qt1 qt2 qt3 qt4 qt5 qt6 qt7 qt8 qp0 qp1 qp2 ne ST hD
      go_wp2
      go_roundw
      case rel => exact ⟨2, rfl, rfl, by go_num, by omega, B2.out⟩
      case measure => simp [intOf]
    · have ix : ∀ W, (Instr.index 43 (.agg #[.int .i64 p1, .int .i64 p2, .int .i64 p3, .int .i64 q1, .int .i64 q2, .int .i64 q3, .int .i64 r1, .int .i64 r2, .int .i64 r3]) (.int .i64 2)).run Try.prog W = .ok (.agg #[.int .i64 r1, .int .i64 r2, .int .i64 r3]) W := fun _ => by kernel_rfl
      have H := Lib.hid (fun W h => K2.out W (HB.out.trans (Below.mono h HB.out.size)))
      go_upto_region 5 with fail
      have hbp := below_new1 wr (.cells #[.int .i64 r1, .int .i64 r2, .int .i64 r3] 23)
      have B1 := Lib.hid (B0.out.trans (hbp.mono B0.out.size))
      replace HB := Lib.hid (HB.out.trans (hbp.mono HB.out.size))
      replace kt := Lib.hid (kt.out.keep hbp)
      have kp := Lib.hid (Lok.new wr 23 #[.int .i64 r1, .int .i64 r2, .int .i64 r3])
      replace H := Lib.hid (fun W h => H.out W (hbp.trans (Below.mono h hbp.size)))
      clear hbp
      generalize wr.alloc (.cells #[.int .i64 r1, .int .i64 r2, .int .i64 r3] 23) = Vp at *
      generalize wr.heap.size = gp at *
      have HC := Lib.hid (fun D : Of (PastV Vp) => H.out D.world (show Below Vp.heap.size Vp D.world from D.holds))
      have qt0 : ∀ D : Of (PastV Vp), _ := fun D => (kt.out.keep (show Below Vp.heap.size Vp D.world from D.holds)).cell (i := 0) rfl
      have qt1 : ∀ D : Of (PastV Vp), _ := fun D => (kt.out.keep (show Below Vp.heap.size Vp D.world from D.holds)).cell (i := 1) rfl
      have qt2 : ∀ D : Of (PastV Vp), _ := fun D => (kt.out.keep (show Below Vp.heap.size Vp D.world from D.holds)).cell (i := 2) rfl
      have qt3 : ∀ D : Of (PastV Vp), _ := fun D => (kt.out.keep (show Below Vp.heap.size Vp D.world from D.holds)).cell (i := 3) rfl
      have qt4 : ∀ D : Of (PastV Vp), _ := fun D => (kt.out.keep (show Below Vp.heap.size Vp D.world from D.holds)).cell (i := 4) rfl
      have qt5 : ∀ D : Of (PastV Vp), _ := fun D => (kt.out.keep (show Below Vp.heap.size Vp D.world from D.holds)).cell (i := 5) rfl
      have qt6 : ∀ D : Of (PastV Vp), _ := fun D => (kt.out.keep (show Below Vp.heap.size Vp D.world from D.holds)).cell (i := 6) rfl
      have qt7 : ∀ D : Of (PastV Vp), _ := fun D => (kt.out.keep (show Below Vp.heap.size Vp D.world from D.holds)).cell (i := 7) rfl
      have qt8 : ∀ D : Of (PastV Vp), _ := fun D => (kt.out.keep (show Below Vp.heap.size Vp D.world from D.holds)).cell (i := 8) rfl
      have qp0 : ∀ D : Of (PastV Vp), _ := fun D => (kp.out.keep (show Below Vp.heap.size Vp D.world from D.holds)).cell (i := 0) rfl
      have qp1 : ∀ D : Of (PastV Vp), _ := fun D => (kp.out.keep (show Below Vp.heap.size Vp D.world from D.holds)).cell (i := 1) rfl
      have qp2 : ∀ D : Of (PastV Vp), _ := fun D => (kp.out.keep (show Below Vp.heap.size Vp D.world from D.holds)).cell (i := 2) rfl
      have ST := Lib.hid (pastV_stays Vp)
      have ne : Nonempty (Of (PastV Vp)) := ⟨⟨Vp, Below.refl _ _⟩⟩
      refine wp_region_class (S := PastV Vp) (by kernel_rfl) (by kernel_rfl) (Below.refl _ _).drew ?_
      repeat (go_big_quiet_step (first | (go_at_call 33; first | (with_reducible exact class_call ST.out _ (HC.out _)))))
      refine wpQuiet_nil ?_
      rintro _ ⟨D, rfl⟩
      have hD : Below Vp.heap.size Vp D.world := D.holds
      have B2 := Lib.hid (B1.out.trans (hD.mono B1.out.size))
      replace HB := Lib.hid (HB.out.trans (hD.mono HB.out.size))
      replace kt := Lib.hid (kt.out.keep hD)
      replace kp := Lib.hid (kp.out.keep hD)
      generalize D.world = v1 at *
      clear qt0 qt1 qt2 qt3 qt4 qt5 qt6 qt7 qt8 qp0 qp1 qp2 ne ST hD
      go_wp2
      go_roundw
      case rel => exact ⟨3, rfl, rfl, by go_num, by omega, B2.out⟩
      case measure => simp [intOf]
    · have e := hz.out
      unfold owB at e
      rw [owL_3, owG_3] at e
      rw [owL_3, owG_3]
      generalize min (min (min 0 m0) m1) m2 = l at *
      generalize max (max (max 0 m0) m1) m2 = g at *
      clear hz K0 K1 K2
      by_cases h : l = 0
      · subst h
        obtain rfl : true = z := by rw [← e]; rfl
        clear e
        go_wp2
        go_ret
        exact ⟨rfl, HB.out⟩
      · have e1 := beq_no h
        rw [e1, Bool.false_or] at e
        subst e
        go_wp2
        go_ret
        exact ⟨rfl, HB.out⟩
end Go.Proofs.Ytfghjfgdjlkooaa
