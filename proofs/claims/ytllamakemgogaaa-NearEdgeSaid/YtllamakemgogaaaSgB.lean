/-
  Contracts of package sign: side, the methods of a plane, Area, Side. (gen/SgB.py)
-/
import Derived.Test.YtllamakemgogaaaSgA
import Derived.Test.YtllamakemgogaaaVcG
import Derived.Test.YtllamakemgogaaaVcR
namespace Go.Proofs.Ytllamakemgogaaa
open Go.RowKit

set_option maxHeartbeats 1000000 in
theorem side_any (n : Int) (w : World) :
    Calls Try.prog 58 #[.int .i64 n] w fun e w' => e = .returned (.int .i64 (ordI n 0)) ∧ Below w.heap.size w w' := by
  have HB := Lib.hid (Below.refl w.heap.size w)
  have C := Lib.hid (fun W => compare_int n 0 W)
  go_enter Try.func58, Try.ntmps58
  go_wp2_with fail
  (((with_reducible refine (C.out _).mono ?_); rintro e w1 ⟨rfl, hb1⟩); replace HB := Lib.hid (HB.out.trans (hb1.mono HB.out.size)); clear hb1)
  go_wp2
  go_ret
  exact ⟨rfl, HB.out⟩

theorem sub2_sm {a b c d : Int} (h : s2 a b = true) (k : s2 c d = true) (w : World) :
    Calls Try.prog 43 #[.agg #[.int .i64 c, .int .i64 d], .agg #[.int .i64 a, .int .i64 b]] w fun e w' => e = .returned (.agg #[.int .i64 (c - a), .int .i64 (d - b)]) ∧ Below w.heap.size w w' := by
  have q := sub2_any c d a b w
  rw [n2_of h, n2_of k] at q
  exact q
theorem cross2_sm {a1 a2 b1 b2 c1 c2 : Int} (ha : s2 a1 a2 = true) (hb : s2 b1 b2 = true) (hc : s2 c1 c2 = true) (w : World) :
    Calls Try.prog 71 #[.agg #[.int .i64 (b1 - a1), .int .i64 (b2 - a2)], .agg #[.int .i64 (c1 - a1), .int .i64 (c2 - a2)]] w fun e w' => e = .returned (.tuple #[.int .i64 (ar a1 a2 b1 b2 c1 c2), .int .i64 0]) ∧ Below w.heap.size w w' := by
  have q := cross2_any (b1 - a1) (b2 - a2) (c1 - a1) (c2 - a2) w
  rw [n2_d ha hb, n2_d ha hc] at q
  exact q
theorem rsub2_sm {a b c d : Int} (h : s2 a b = true) (k : s2 c d = true) (w : World) :
    Calls Try.prog 47 #[.agg #[.int .i64 c, .int .i64 d], .agg #[.int .i64 a, .int .i64 b]] w fun e w' => e = .returned (.agg #[.int .i64 (c - a), .int .i64 (d - b)]) ∧ Below w.heap.size w w' := by
  have q := rsub2_any c d a b w
  rw [n2_of h, n2_of k] at q
  exact q
theorem rcross2_sm {a1 a2 b1 b2 c1 c2 : Int} (ha : s2 a1 a2 = true) (hb : s2 b1 b2 = true) (hc : s2 c1 c2 = true) (w : World) :
    Calls Try.prog 46 #[.agg #[.int .i64 (b1 - a1), .int .i64 (b2 - a2)], .agg #[.int .i64 (c1 - a1), .int .i64 (c2 - a2)]] w fun e w' => e = .returned (.tuple #[.int .i64 (ar a1 a2 b1 b2 c1 c2), .int .i64 0]) ∧ Below w.heap.size w w' := by
  have q := rcross2_any (b1 - a1) (b2 - a2) (c1 - a1) (c2 - a2) w
  rw [n2_d ha hb, n2_d ha hc] at q
  exact q

set_option maxRecDepth 100000 in
set_option maxHeartbeats 4000000 in
theorem plane_any (a1 a2 b1 b2 c1 c2 : Int) (t : Bool) (ht : (s2 a1 a2 && s2 b1 b2 && s2 c1 c2) = t) (w : World) :
    Calls Try.prog 57 #[.agg #[.int .i64 a1, .int .i64 a2, .int .i64 b1, .int .i64 b2, .int .i64 c1, .int .i64 c2]] w fun e' w' => e' = .returned (.tuple #[.int .i64 (vF t (ar a1 a2 b1 b2 c1 c2)), .int .i64 (rE t)]) ∧ Below w.heap.size w w' := by
  have HB := Lib.hid (Below.refl w.heap.size w)
  have S := Lib.hid (fun g T W h => small2_3 a1 a2 b1 b2 c1 c2 t ht g T W h)
  cases t with
  | false =>
    rw [vF_no, show rE false = 5 from rfl]
    clear ht
    go_enter Try.func57, Try.ntmps57
    go_upto_region 1 with fail
    have hbx := below_new1 w (.cells #[.int .i64 a1, .int .i64 a2, .int .i64 b1, .int .i64 b2, .int .i64 c1, .int .i64 c2] 83)
    have zx : (w.alloc (.cells #[.int .i64 a1, .int .i64 a2, .int .i64 b1, .int .i64 b2, .int .i64 c1, .int .i64 c2] 83)).heap.size = w.heap.size + 1 := by simp
    have HB := Lib.hid hbx
    have kx := Lib.hid (Lok.new w 83 #[.int .i64 a1, .int .i64 a2, .int .i64 b1, .int .i64 b2, .int .i64 c1, .int .i64 c2])
    clear hbx
    generalize w.alloc (.cells #[.int .i64 a1, .int .i64 a2, .int .i64 b1, .int .i64 b2, .int .i64 c1, .int .i64 c2] 83) = Vx at *
    clear zx
    go_wp2_with fail
    (((with_reducible refine (S.out _ _ _ kx.out).mono ?_); rintro e w1 ⟨rfl, hb1⟩); replace HB := Lib.hid (HB.out.trans (hb1.mono HB.out.size)); replace kx := Lib.hid (kx.out.keep hb1); clear hb1)
    go_wp2
    go_ret2
    exact ⟨rfl, HB.out⟩
  | true =>
    rw [vF_yes, show rE true = 0 from rfl]
    rw [Bool.and_eq_true, Bool.and_eq_true] at ht
    obtain ⟨⟨ha, hb⟩, hc⟩ := ht
    have U1 := Lib.hid (fun W => sub2_sm ha hb W)
    have U2 := Lib.hid (fun W => sub2_sm ha hc W)
    have X := Lib.hid (fun W => cross2_sm ha hb hc W)
    generalize ar a1 a2 b1 b2 c1 c2 = n at *
    clear ha hb hc
    go_enter Try.func57, Try.ntmps57
    go_upto_region 1 with fail
    have hbx := below_new1 w (.cells #[.int .i64 a1, .int .i64 a2, .int .i64 b1, .int .i64 b2, .int .i64 c1, .int .i64 c2] 83)
    have zx : (w.alloc (.cells #[.int .i64 a1, .int .i64 a2, .int .i64 b1, .int .i64 b2, .int .i64 c1, .int .i64 c2] 83)).heap.size = w.heap.size + 1 := by simp
    have HB := Lib.hid hbx
    have kx := Lib.hid (Lok.new w 83 #[.int .i64 a1, .int .i64 a2, .int .i64 b1, .int .i64 b2, .int .i64 c1, .int .i64 c2])
    clear hbx
    generalize w.alloc (.cells #[.int .i64 a1, .int .i64 a2, .int .i64 b1, .int .i64 b2, .int .i64 c1, .int .i64 c2] 83) = Vx at *
    clear zx
    go_wp2_with fail
    (((with_reducible refine (S.out _ _ _ kx.out).mono ?_); rintro e w1 ⟨rfl, hb1⟩); replace HB := Lib.hid (HB.out.trans (hb1.mono HB.out.size)); replace kx := Lib.hid (kx.out.keep hb1); clear hb1)
    clear S
    go_upto_region 3 with fail
    have qx0 : ∀ D : Of (PastV w1), _ := fun D => (kx.out.keep (show Below w1.heap.size w1 D.world from D.holds)).cell (i := 0) rfl
    have qx1 : ∀ D : Of (PastV w1), _ := fun D => (kx.out.keep (show Below w1.heap.size w1 D.world from D.holds)).cell (i := 1) rfl
    have qx2 : ∀ D : Of (PastV w1), _ := fun D => (kx.out.keep (show Below w1.heap.size w1 D.world from D.holds)).cell (i := 2) rfl
    have qx3 : ∀ D : Of (PastV w1), _ := fun D => (kx.out.keep (show Below w1.heap.size w1 D.world from D.holds)).cell (i := 3) rfl
    have qx4 : ∀ D : Of (PastV w1), _ := fun D => (kx.out.keep (show Below w1.heap.size w1 D.world from D.holds)).cell (i := 4) rfl
    have qx5 : ∀ D : Of (PastV w1), _ := fun D => (kx.out.keep (show Below w1.heap.size w1 D.world from D.holds)).cell (i := 5) rfl
    have ST := Lib.hid (pastV_stays w1)
    have ne : Nonempty (Of (PastV w1)) := ⟨⟨w1, Below.refl _ _⟩⟩
    refine wp_region_class (S := PastV w1) (by kernel_rfl) (by kernel_rfl) (Below.refl _ _).drew ?_
    repeat (go_big_quiet_step (first | (go_at_call 43; first | (with_reducible exact class_call ST.out _ (U1.out _)) | (with_reducible exact class_call ST.out _ (U2.out _))) | (go_at_call 71; first | (with_reducible exact class_call ST.out _ (X.out _)))))
    refine wpQuiet_nil ?_
    rintro _ ⟨D, rfl⟩
    have hD : Below w1.heap.size w1 D.world := D.holds
    replace HB := Lib.hid (HB.out.trans (hD.mono HB.out.size))
    replace kx := Lib.hid (kx.out.keep hD)
    generalize D.world = vd at *
    clear qx0 qx1 qx2 qx3 qx4 qx5 ne ST hD
    go_wp2
    go_ret2
    exact ⟨rfl, HB.out⟩
set_option maxRecDepth 100000 in
set_option maxHeartbeats 4000000 in
theorem area_any (a1 a2 b1 b2 c1 c2 : Int) (t : Bool) (ht : (s2 a1 a2 && s2 b1 b2 && s2 c1 c2) = t) (w : World) :
    Calls Try.prog 31 #[.agg #[.int .i64 a1, .int .i64 a2], .agg #[.int .i64 b1, .int .i64 b2], .agg #[.int .i64 c1, .int .i64 c2]] w fun e' w' => e' = .returned (.tuple #[.int .i64 (vF t (ar a1 a2 b1 b2 c1 c2)), .int .i64 (rE t)]) ∧ Below w.heap.size w w' := by
  have HB := Lib.hid (Below.refl w.heap.size w)
  have P := Lib.hid (fun W => plane_any a1 a2 b1 b2 c1 c2 t ht W)
  generalize vF t (ar a1 a2 b1 b2 c1 c2) = n at *
  generalize rE t = e0 at *
  clear ht
  go_enter Try.func31, Try.ntmps31
  go_upto_region 1 with fail
  have hbx := below_new1 w (.cells #[.int .i64 a1, .int .i64 a2] 23)
  have zx : (w.alloc (.cells #[.int .i64 a1, .int .i64 a2] 23)).heap.size = w.heap.size + 1 := by simp
  have HB := Lib.hid hbx
  have kx := Lib.hid (Lok.new w 23 #[.int .i64 a1, .int .i64 a2])
  clear hbx
  generalize w.alloc (.cells #[.int .i64 a1, .int .i64 a2] 23) = Vx at *
  have hby := below_new1 Vx (.cells #[.int .i64 b1, .int .i64 b2] 23)
  replace kx := Lib.hid (kx.out.keep hby)
  have zy : (Vx.alloc (.cells #[.int .i64 b1, .int .i64 b2] 23)).heap.size = Vx.heap.size + 1 := by simp
  replace HB := Lib.hid (HB.out.trans (hby.mono HB.out.size))
  have ky := Lib.hid (Lok.new Vx 23 #[.int .i64 b1, .int .i64 b2])
  clear hby
  generalize Vx.alloc (.cells #[.int .i64 b1, .int .i64 b2] 23) = Vy at *
  rw [zx] at ky zy
  have hbz := below_new1 Vy (.cells #[.int .i64 c1, .int .i64 c2] 23)
  replace kx := Lib.hid (kx.out.keep hbz)
  replace ky := Lib.hid (ky.out.keep hbz)
  have zz : (Vy.alloc (.cells #[.int .i64 c1, .int .i64 c2] 23)).heap.size = Vy.heap.size + 1 := by simp
  replace HB := Lib.hid (HB.out.trans (hbz.mono HB.out.size))
  have kz := Lib.hid (Lok.new Vy 23 #[.int .i64 c1, .int .i64 c2])
  clear hbz
  generalize Vy.alloc (.cells #[.int .i64 c1, .int .i64 c2] 23) = Vz at *
  rw [zy] at kz
  clear zx zy zz
  have x0 := kx.out.cell (i := 0) rfl
  have x1 := kx.out.cell (i := 1) rfl
  have y0 := ky.out.cell (i := 0) rfl
  have y1 := ky.out.cell (i := 1) rfl
  have z0 := kz.out.cell (i := 0) rfl
  have z1 := kz.out.cell (i := 1) rfl
  go_wp2_with fail
  clear x0 x1 y0 y1 z0 z1
  (((with_reducible refine (P.out _).mono ?_); rintro e w1 ⟨rfl, hb1⟩); replace HB := Lib.hid (HB.out.trans (hb1.mono HB.out.size)); clear hb1)
  go_wp2
  go_ret2
  exact ⟨rfl, HB.out⟩
set_option maxRecDepth 100000 in
set_option maxHeartbeats 4000000 in
theorem sideOf_any (a1 a2 b1 b2 c1 c2 : Int) (t : Bool) (ht : (s2 a1 a2 && s2 b1 b2 && s2 c1 c2) = t) (w : World) :
    Calls Try.prog 30 #[.agg #[.int .i64 a1, .int .i64 a2], .agg #[.int .i64 b1, .int .i64 b2], .agg #[.int .i64 c1, .int .i64 c2]] w fun e' w' => e' = .returned (.tuple #[.int .i64 (ordI (vF t (ar a1 a2 b1 b2 c1 c2)) 0), .int .i64 (rE t)]) ∧ Below w.heap.size w w' := by
  have HB := Lib.hid (Below.refl w.heap.size w)
  have P := Lib.hid (fun W => plane_any a1 a2 b1 b2 c1 c2 t ht W)
  generalize vF t (ar a1 a2 b1 b2 c1 c2) = n at *
  generalize rE t = e0 at *
  have Q := Lib.hid (fun W => side_any n W)
  generalize ordI n 0 = s at *
  clear ht
  go_enter Try.func30, Try.ntmps30
  go_upto_region 1 with fail
  have hbx := below_new1 w (.cells #[.int .i64 a1, .int .i64 a2] 23)
  have zx : (w.alloc (.cells #[.int .i64 a1, .int .i64 a2] 23)).heap.size = w.heap.size + 1 := by simp
  have HB := Lib.hid hbx
  have kx := Lib.hid (Lok.new w 23 #[.int .i64 a1, .int .i64 a2])
  clear hbx
  generalize w.alloc (.cells #[.int .i64 a1, .int .i64 a2] 23) = Vx at *
  have hby := below_new1 Vx (.cells #[.int .i64 b1, .int .i64 b2] 23)
  replace kx := Lib.hid (kx.out.keep hby)
  have zy : (Vx.alloc (.cells #[.int .i64 b1, .int .i64 b2] 23)).heap.size = Vx.heap.size + 1 := by simp
  replace HB := Lib.hid (HB.out.trans (hby.mono HB.out.size))
  have ky := Lib.hid (Lok.new Vx 23 #[.int .i64 b1, .int .i64 b2])
  clear hby
  generalize Vx.alloc (.cells #[.int .i64 b1, .int .i64 b2] 23) = Vy at *
  rw [zx] at ky zy
  have hbz := below_new1 Vy (.cells #[.int .i64 c1, .int .i64 c2] 23)
  replace kx := Lib.hid (kx.out.keep hbz)
  replace ky := Lib.hid (ky.out.keep hbz)
  have zz : (Vy.alloc (.cells #[.int .i64 c1, .int .i64 c2] 23)).heap.size = Vy.heap.size + 1 := by simp
  replace HB := Lib.hid (HB.out.trans (hbz.mono HB.out.size))
  have kz := Lib.hid (Lok.new Vy 23 #[.int .i64 c1, .int .i64 c2])
  clear hbz
  generalize Vy.alloc (.cells #[.int .i64 c1, .int .i64 c2] 23) = Vz at *
  rw [zy] at kz
  clear zx zy zz
  have x0 := kx.out.cell (i := 0) rfl
  have x1 := kx.out.cell (i := 1) rfl
  have y0 := ky.out.cell (i := 0) rfl
  have y1 := ky.out.cell (i := 1) rfl
  have z0 := kz.out.cell (i := 0) rfl
  have z1 := kz.out.cell (i := 1) rfl
  go_wp2_with fail
  clear x0 x1 y0 y1 z0 z1
  (((with_reducible refine (P.out _).mono ?_); rintro e w1 ⟨rfl, hb1⟩); replace HB := Lib.hid (HB.out.trans (hb1.mono HB.out.size)); clear hb1)
  go_wp2_with fail
  (((with_reducible refine (Q.out _).mono ?_); rintro e w2 ⟨rfl, hb2⟩); replace HB := Lib.hid (HB.out.trans (hb2.mono HB.out.size)); clear hb2)
  go_wp2
  go_ret2
  exact ⟨rfl, HB.out⟩
end Go.Proofs.Ytllamakemgogaaa
