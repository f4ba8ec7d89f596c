/-
  MeetTurns, walked. (gen/MtU.py)
-/
import Derived.Test.YthdcldbocakbpaaMtH
import Derived.Test.YthdcldbocakbpaaMtM
namespace Go.Proofs.Ythdcldbocakbpaa
open Go.RowKit

set_option maxRecDepth 100000 in
set_option maxHeartbeats 8000000 in
theorem law_turns (x y a1 a2 b1 b2 c1 c2 d1 d2 e1 e2 f1 f2 : Int) (w : World) :
    Calls Try.prog 5 #[.agg #[.int .i64 x, .int .i64 y], .agg #[.int .i64 a1, .int .i64 a2, .int .i64 b1, .int .i64 b2, .int .i64 c1, .int .i64 c2], .agg #[.int .i64 d1, .int .i64 d2, .int .i64 e1, .int .i64 e2, .int .i64 f1, .int .i64 f2]] w fun e' w' => e' = .returned (.bool true) ∧ Below w.heap.size w w' := by
  have HB := Lib.hid (Below.refl w.heap.size w)
  have ME := Lib.hid (fun W => met_any W)
  have I1 := Lib.hid (fun W => in_any x y a1 a2 b1 b2 c1 c2 W)
  have I2 := Lib.hid (fun W => in_any x y b1 b2 c1 c2 a1 a2 W)
  have O1 := Lib.hid (fun W => overlap_any a1 a2 b1 b2 c1 c2 d1 d2 e1 e2 f1 f2 _ rfl W)
  have O2 := Lib.hid (fun W => overlap_any e1 e2 d1 d2 f1 f2 b1 b2 c1 c2 a1 a2 _ rfl W)
  have T1 := Lib.hid (fun W => touch_any a1 a2 b1 b2 c1 c2 d1 d2 e1 e2 f1 f2 _ rfl W)
  have T2 := Lib.hid (fun W => touch_any e1 e2 d1 d2 f1 f2 b1 b2 c1 c2 a1 a2 _ rfl W)
  have S1 := Lib.hid (fun W => square_any x y 4 a1 a2 b1 b2 c1 c2 W)
  have S2 := Lib.hid (fun W => square_any x y 4 b1 b2 c1 c2 a1 a2 W)
  rw [rT_turn a1 a2 b1 b2 c1 c2, r1_turn] at I2
  rw [rT_turn a1 a2 b1 b2 c1 c2, rT_swap d1 d2 e1 e2 f1 f2, Bool.and_comm (rT d1 d2 e1 e2 f1 f2), mu_turns a1 a2 b1 b2 c1 c2 d1 d2 e1 e2 f1 f2] at O2 T2
  rw [sqV_turn, rT_turn a1 a2 b1 b2 c1 c2] at S2
  generalize iV (s2 x y) (rT a1 a2 b1 b2 c1 c2) (r1 a1 a2 b1 b2 c1 c2 x y) = vi at *
  generalize iE (s2 x y) (rT a1 a2 b1 b2 c1 c2) = ei at *
  generalize (mV (rT a1 a2 b1 b2 c1 c2 && rT d1 d2 e1 e2 f1 f2) (mu a1 a2 b1 b2 c1 c2 d1 d2 e1 e2 f1 f2) == 1) = vo at *
  generalize (mV (rT a1 a2 b1 b2 c1 c2 && rT d1 d2 e1 e2 f1 f2) (mu a1 a2 b1 b2 c1 c2 d1 d2 e1 e2 f1 f2) != -1) = vt at *
  generalize mE (rT a1 a2 b1 b2 c1 c2 && rT d1 d2 e1 e2 f1 f2) = eo at *
  generalize sqV x y 4 a1 a2 b1 b2 c1 c2 = vs at *
  generalize sqE (sqS x y 4) (rT a1 a2 b1 b2 c1 c2) = es at *
  go_enter Try.func5, Try.ntmps5
  go_upto_region 1 with fail
  have hbo := below_new1 w (.cells #[.int .i64 x, .int .i64 y] 23)
  have zo : (w.alloc (.cells #[.int .i64 x, .int .i64 y] 23)).heap.size = w.heap.size + 1 := by simp
  have HB := Lib.hid hbo
  have ko := Lib.hid (Lok.new w 23 #[.int .i64 x, .int .i64 y])
  clear hbo
  generalize w.alloc (.cells #[.int .i64 x, .int .i64 y] 23) = Vo at *
  have hbk := below_new1 Vo (.cells #[.int .i64 a1, .int .i64 a2, .int .i64 b1, .int .i64 b2, .int .i64 c1, .int .i64 c2] 24)
  replace ko := Lib.hid (ko.out.keep hbk)
  have zk : (Vo.alloc (.cells #[.int .i64 a1, .int .i64 a2, .int .i64 b1, .int .i64 b2, .int .i64 c1, .int .i64 c2] 24)).heap.size = Vo.heap.size + 1 := by simp
  replace HB := Lib.hid (HB.out.trans (hbk.mono HB.out.size))
  have kk := Lib.hid (Lok.new Vo 24 #[.int .i64 a1, .int .i64 a2, .int .i64 b1, .int .i64 b2, .int .i64 c1, .int .i64 c2])
  clear hbk
  generalize Vo.alloc (.cells #[.int .i64 a1, .int .i64 a2, .int .i64 b1, .int .i64 b2, .int .i64 c1, .int .i64 c2] 24) = Vk at *
  rw [zo] at kk zk
  have hbl := below_new1 Vk (.cells #[.int .i64 d1, .int .i64 d2, .int .i64 e1, .int .i64 e2, .int .i64 f1, .int .i64 f2] 24)
  replace ko := Lib.hid (ko.out.keep hbl)
  replace kk := Lib.hid (kk.out.keep hbl)
  have zl : (Vk.alloc (.cells #[.int .i64 d1, .int .i64 d2, .int .i64 e1, .int .i64 e2, .int .i64 f1, .int .i64 f2] 24)).heap.size = Vk.heap.size + 1 := by simp
  replace HB := Lib.hid (HB.out.trans (hbl.mono HB.out.size))
  have kl := Lib.hid (Lok.new Vk 24 #[.int .i64 d1, .int .i64 d2, .int .i64 e1, .int .i64 e2, .int .i64 f1, .int .i64 f2])
  clear hbl
  generalize Vk.alloc (.cells #[.int .i64 d1, .int .i64 d2, .int .i64 e1, .int .i64 e2, .int .i64 f1, .int .i64 f2] 24) = Vl at *
  rw [zk] at kl
  clear zo zk zl
  have k0 := kk.out.cell (i := 0) rfl
  have k1 := kk.out.cell (i := 1) rfl
  have k2 := kk.out.cell (i := 2) rfl
  have k3 := kk.out.cell (i := 3) rfl
  have k4 := kk.out.cell (i := 4) rfl
  have k5 := kk.out.cell (i := 5) rfl
  go_upto_region 2 with fail
  have hbm := below_new1 Vl (.cells #[.int .i64 b1, .int .i64 b2, .int .i64 c1, .int .i64 c2, .int .i64 a1, .int .i64 a2] 24)
  replace ko := Lib.hid (ko.out.keep hbm)
  replace kk := Lib.hid (kk.out.keep hbm)
  replace kl := Lib.hid (kl.out.keep hbm)
  have zm : (Vl.alloc (.cells #[.int .i64 b1, .int .i64 b2, .int .i64 c1, .int .i64 c2, .int .i64 a1, .int .i64 a2] 24)).heap.size = Vl.heap.size + 1 := by simp
  replace HB := Lib.hid (HB.out.trans (hbm.mono HB.out.size))
  have km := Lib.hid (Lok.new Vl 24 #[.int .i64 b1, .int .i64 b2, .int .i64 c1, .int .i64 c2, .int .i64 a1, .int .i64 a2])
  clear hbm
  generalize Vl.alloc (.cells #[.int .i64 b1, .int .i64 b2, .int .i64 c1, .int .i64 c2, .int .i64 a1, .int .i64 a2] 24) = Vm at *
  clear zm
  generalize Vl.heap.size = gc at *
  clear k0 k1 k2 k3 k4 k5
  have l0 := kl.out.cell (i := 0) rfl
  have l1 := kl.out.cell (i := 1) rfl
  have l2 := kl.out.cell (i := 2) rfl
  have l3 := kl.out.cell (i := 3) rfl
  have l4 := kl.out.cell (i := 4) rfl
  have l5 := kl.out.cell (i := 5) rfl
  go_upto_region 3 with fail
  have hbn := below_new1 Vm (.cells #[.int .i64 e1, .int .i64 e2, .int .i64 d1, .int .i64 d2, .int .i64 f1, .int .i64 f2] 24)
  replace ko := Lib.hid (ko.out.keep hbn)
  replace kk := Lib.hid (kk.out.keep hbn)
  replace kl := Lib.hid (kl.out.keep hbn)
  replace km := Lib.hid (km.out.keep hbn)
  have zn : (Vm.alloc (.cells #[.int .i64 e1, .int .i64 e2, .int .i64 d1, .int .i64 d2, .int .i64 f1, .int .i64 f2] 24)).heap.size = Vm.heap.size + 1 := by simp
  replace HB := Lib.hid (HB.out.trans (hbn.mono HB.out.size))
  have kn := Lib.hid (Lok.new Vm 24 #[.int .i64 e1, .int .i64 e2, .int .i64 d1, .int .i64 d2, .int .i64 f1, .int .i64 f2])
  clear hbn
  generalize Vm.alloc (.cells #[.int .i64 e1, .int .i64 e2, .int .i64 d1, .int .i64 d2, .int .i64 f1, .int .i64 f2] 24) = Vn at *
  clear zn
  generalize Vm.heap.size = gd at *
  clear l0 l1 l2 l3 l4 l5
  have o0 := ko.out.cell (i := 0) rfl
  have o1 := ko.out.cell (i := 1) rfl
  have k0 := kk.out.cell (i := 0) rfl
  have k1 := kk.out.cell (i := 1) rfl
  have k2 := kk.out.cell (i := 2) rfl
  have k3 := kk.out.cell (i := 3) rfl
  have k4 := kk.out.cell (i := 4) rfl
  have k5 := kk.out.cell (i := 5) rfl
  go_wp2_with fail
  clear o0 o1 k0 k1 k2 k3 k4 k5
  (((with_reducible refine (I1.out _).mono ?_); rintro e w1 ⟨rfl, hb1⟩); replace HB := Lib.hid (HB.out.trans (hb1.mono HB.out.size)); replace ko := Lib.hid (ko.out.keep hb1); replace kk := Lib.hid (kk.out.keep hb1); replace kl := Lib.hid (kl.out.keep hb1); replace km := Lib.hid (km.out.keep hb1); replace kn := Lib.hid (kn.out.keep hb1); clear hb1)
  clear I1
  have o0 := ko.out.cell (i := 0) rfl
  have o1 := ko.out.cell (i := 1) rfl
  have m0 := km.out.cell (i := 0) rfl
  have m1 := km.out.cell (i := 1) rfl
  have m2 := km.out.cell (i := 2) rfl
  have m3 := km.out.cell (i := 3) rfl
  have m4 := km.out.cell (i := 4) rfl
  have m5 := km.out.cell (i := 5) rfl
  go_wp2_with fail
  clear o0 o1 m0 m1 m2 m3 m4 m5
  (((with_reducible refine (I2.out _).mono ?_); rintro e w2 ⟨rfl, hb2⟩); replace HB := Lib.hid (HB.out.trans (hb2.mono HB.out.size)); replace ko := Lib.hid (ko.out.keep hb2); replace kk := Lib.hid (kk.out.keep hb2); replace kl := Lib.hid (kl.out.keep hb2); replace km := Lib.hid (km.out.keep hb2); replace kn := Lib.hid (kn.out.keep hb2); clear hb2)
  clear I2
  have k0 := kk.out.cell (i := 0) rfl
  have k1 := kk.out.cell (i := 1) rfl
  have k2 := kk.out.cell (i := 2) rfl
  have k3 := kk.out.cell (i := 3) rfl
  have k4 := kk.out.cell (i := 4) rfl
  have k5 := kk.out.cell (i := 5) rfl
  have l0 := kl.out.cell (i := 0) rfl
  have l1 := kl.out.cell (i := 1) rfl
  have l2 := kl.out.cell (i := 2) rfl
  have l3 := kl.out.cell (i := 3) rfl
  have l4 := kl.out.cell (i := 4) rfl
  have l5 := kl.out.cell (i := 5) rfl
  go_wp2_with fail
  clear k0 k1 k2 k3 k4 k5 l0 l1 l2 l3 l4 l5
  (((with_reducible refine (O1.out _).mono ?_); rintro e w3 ⟨rfl, hb3⟩); replace HB := Lib.hid (HB.out.trans (hb3.mono HB.out.size)); replace ko := Lib.hid (ko.out.keep hb3); replace kk := Lib.hid (kk.out.keep hb3); replace kl := Lib.hid (kl.out.keep hb3); replace km := Lib.hid (km.out.keep hb3); replace kn := Lib.hid (kn.out.keep hb3); clear hb3)
  clear O1
  have n0 := kn.out.cell (i := 0) rfl
  have n1 := kn.out.cell (i := 1) rfl
  have n2 := kn.out.cell (i := 2) rfl
  have n3 := kn.out.cell (i := 3) rfl
  have n4 := kn.out.cell (i := 4) rfl
  have n5 := kn.out.cell (i := 5) rfl
  have m0 := km.out.cell (i := 0) rfl
  have m1 := km.out.cell (i := 1) rfl
  have m2 := km.out.cell (i := 2) rfl
  have m3 := km.out.cell (i := 3) rfl
  have m4 := km.out.cell (i := 4) rfl
  have m5 := km.out.cell (i := 5) rfl
  go_wp2_with fail
  clear n0 n1 n2 n3 n4 n5 m0 m1 m2 m3 m4 m5
  (((with_reducible refine (O2.out _).mono ?_); rintro e w4 ⟨rfl, hb4⟩); replace HB := Lib.hid (HB.out.trans (hb4.mono HB.out.size)); replace ko := Lib.hid (ko.out.keep hb4); replace kk := Lib.hid (kk.out.keep hb4); replace kl := Lib.hid (kl.out.keep hb4); replace km := Lib.hid (km.out.keep hb4); replace kn := Lib.hid (kn.out.keep hb4); clear hb4)
  clear O2
  have k0 := kk.out.cell (i := 0) rfl
  have k1 := kk.out.cell (i := 1) rfl
  have k2 := kk.out.cell (i := 2) rfl
  have k3 := kk.out.cell (i := 3) rfl
  have k4 := kk.out.cell (i := 4) rfl
  have k5 := kk.out.cell (i := 5) rfl
  have l0 := kl.out.cell (i := 0) rfl
  have l1 := kl.out.cell (i := 1) rfl
  have l2 := kl.out.cell (i := 2) rfl
  have l3 := kl.out.cell (i := 3) rfl
  have l4 := kl.out.cell (i := 4) rfl
  have l5 := kl.out.cell (i := 5) rfl
  go_wp2_with fail
  clear k0 k1 k2 k3 k4 k5 l0 l1 l2 l3 l4 l5
  (((with_reducible refine (T1.out _).mono ?_); rintro e w5 ⟨rfl, hb5⟩); replace HB := Lib.hid (HB.out.trans (hb5.mono HB.out.size)); replace ko := Lib.hid (ko.out.keep hb5); replace kk := Lib.hid (kk.out.keep hb5); replace kl := Lib.hid (kl.out.keep hb5); replace km := Lib.hid (km.out.keep hb5); replace kn := Lib.hid (kn.out.keep hb5); clear hb5)
  clear T1
  have n0 := kn.out.cell (i := 0) rfl
  have n1 := kn.out.cell (i := 1) rfl
  have n2 := kn.out.cell (i := 2) rfl
  have n3 := kn.out.cell (i := 3) rfl
  have n4 := kn.out.cell (i := 4) rfl
  have n5 := kn.out.cell (i := 5) rfl
  have m0 := km.out.cell (i := 0) rfl
  have m1 := km.out.cell (i := 1) rfl
  have m2 := km.out.cell (i := 2) rfl
  have m3 := km.out.cell (i := 3) rfl
  have m4 := km.out.cell (i := 4) rfl
  have m5 := km.out.cell (i := 5) rfl
  go_wp2_with fail
  clear n0 n1 n2 n3 n4 n5 m0 m1 m2 m3 m4 m5
  (((with_reducible refine (T2.out _).mono ?_); rintro e w6 ⟨rfl, hb6⟩); replace HB := Lib.hid (HB.out.trans (hb6.mono HB.out.size)); replace ko := Lib.hid (ko.out.keep hb6); replace kk := Lib.hid (kk.out.keep hb6); replace kl := Lib.hid (kl.out.keep hb6); replace km := Lib.hid (km.out.keep hb6); replace kn := Lib.hid (kn.out.keep hb6); clear hb6)
  clear T2
  have o0 := ko.out.cell (i := 0) rfl
  have o1 := ko.out.cell (i := 1) rfl
  have k0 := kk.out.cell (i := 0) rfl
  have k1 := kk.out.cell (i := 1) rfl
  have k2 := kk.out.cell (i := 2) rfl
  have k3 := kk.out.cell (i := 3) rfl
  have k4 := kk.out.cell (i := 4) rfl
  have k5 := kk.out.cell (i := 5) rfl
  go_wp2_with fail
  clear o0 o1 k0 k1 k2 k3 k4 k5
  (((with_reducible refine (S1.out _).mono ?_); rintro e w7 ⟨rfl, hb7⟩); replace HB := Lib.hid (HB.out.trans (hb7.mono HB.out.size)); replace ko := Lib.hid (ko.out.keep hb7); replace kk := Lib.hid (kk.out.keep hb7); replace kl := Lib.hid (kl.out.keep hb7); replace km := Lib.hid (km.out.keep hb7); replace kn := Lib.hid (kn.out.keep hb7); clear hb7)
  clear S1
  have o0 := ko.out.cell (i := 0) rfl
  have o1 := ko.out.cell (i := 1) rfl
  have m0 := km.out.cell (i := 0) rfl
  have m1 := km.out.cell (i := 1) rfl
  have m2 := km.out.cell (i := 2) rfl
  have m3 := km.out.cell (i := 3) rfl
  have m4 := km.out.cell (i := 4) rfl
  have m5 := km.out.cell (i := 5) rfl
  go_wp2_with fail
  clear o0 o1 m0 m1 m2 m3 m4 m5
  (((with_reducible refine (S2.out _).mono ?_); rintro e w8 ⟨rfl, hb8⟩); replace HB := Lib.hid (HB.out.trans (hb8.mono HB.out.size)); replace ko := Lib.hid (ko.out.keep hb8); replace kk := Lib.hid (kk.out.keep hb8); replace kl := Lib.hid (kl.out.keep hb8); replace km := Lib.hid (km.out.keep hb8); replace kn := Lib.hid (kn.out.keep hb8); clear hb8)
  clear S2
  go_wp2_with fail
  (((with_reducible refine (ME.out _).mono ?_); rintro e w9 ⟨rfl, hb9⟩); replace HB := Lib.hid (HB.out.trans (hb9.mono HB.out.size)); replace ko := Lib.hid (ko.out.keep hb9); replace kk := Lib.hid (kk.out.keep hb9); replace kl := Lib.hid (kl.out.keep hb9); replace km := Lib.hid (km.out.keep hb9); replace kn := Lib.hid (kn.out.keep hb9); clear hb9)
  go_wp2
  go_ret
  exact ⟨rfl, HB.out⟩
end Go.Proofs.Ythdcldbocakbpaa
