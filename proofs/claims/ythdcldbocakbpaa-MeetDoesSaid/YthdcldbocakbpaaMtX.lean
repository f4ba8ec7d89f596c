/-
  MeetDoes, walked. (gen/MtX.py)
-/
import Derived.Test.YthdcldbocakbpaaMtT
import Derived.Test.YthdcldbocakbpaaMtM
namespace Go.Proofs.Ythdcldbocakbpaa
open Go.RowKit

set_option maxRecDepth 100000 in
set_option maxHeartbeats 8000000 in
theorem law_does (x y s a1 a2 b1 b2 c1 c2 d1 d2 e1 e2 f1 f2 : Int) (w : World) :
    Calls Try.prog 3 #[.agg #[.int .i64 x, .int .i64 y], .int .i64 s, .agg #[.int .i64 a1, .int .i64 a2, .int .i64 b1, .int .i64 b2, .int .i64 c1, .int .i64 c2], .agg #[.int .i64 d1, .int .i64 d2, .int .i64 e1, .int .i64 e2, .int .i64 f1, .int .i64 f2]] w fun e' w' => e' = .returned (.bool true) ∧ Below w.heap.size w w' := by
  have HB := Lib.hid (Below.refl w.heap.size w)
  have ME := Lib.hid (fun W => met_any W)
  have I1 := Lib.hid (fun W => in_any x y a1 a2 b1 b2 c1 c2 W)
  have I2 := Lib.hid (fun W => rin_any x y a1 a2 b1 b2 c1 c2 W)
  have O1 := Lib.hid (fun W => overlap_any a1 a2 b1 b2 c1 c2 d1 d2 e1 e2 f1 f2 _ rfl W)
  have O2 := Lib.hid (fun W => roverlap_any a1 a2 b1 b2 c1 c2 d1 d2 e1 e2 f1 f2 _ rfl W)
  have T1 := Lib.hid (fun W => touch_any a1 a2 b1 b2 c1 c2 d1 d2 e1 e2 f1 f2 _ rfl W)
  have T2 := Lib.hid (fun W => rtouch_any a1 a2 b1 b2 c1 c2 d1 d2 e1 e2 f1 f2 _ rfl W)
  have S1 := Lib.hid (fun W => square_any x y s a1 a2 b1 b2 c1 c2 W)
  have S2 := Lib.hid (fun W => rsquare_any x y s a1 a2 b1 b2 c1 c2 W)
  have R1 := Lib.hid (fun W => right_any a1 a2 b1 b2 c1 c2 W)
  have R2 := Lib.hid (fun W => rright_any a1 a2 b1 b2 c1 c2 W)
  generalize iV (s2 x y) (rT a1 a2 b1 b2 c1 c2) (r1 a1 a2 b1 b2 c1 c2 x y) = vi at *
  generalize iE (s2 x y) (rT a1 a2 b1 b2 c1 c2) = ei at *
  generalize (mV (rT a1 a2 b1 b2 c1 c2 && rT d1 d2 e1 e2 f1 f2) (mu a1 a2 b1 b2 c1 c2 d1 d2 e1 e2 f1 f2) == 1) = vo at *
  generalize (mV (rT a1 a2 b1 b2 c1 c2 && rT d1 d2 e1 e2 f1 f2) (mu a1 a2 b1 b2 c1 c2 d1 d2 e1 e2 f1 f2) != -1) = vt at *
  generalize mE (rT a1 a2 b1 b2 c1 c2 && rT d1 d2 e1 e2 f1 f2) = eo at *
  generalize sqV x y s a1 a2 b1 b2 c1 c2 = vs at *
  generalize sqE (sqS x y s) (rT a1 a2 b1 b2 c1 c2) = es at *
  generalize rT a1 a2 b1 b2 c1 c2 = vr at *
  go_enter Try.func3, Try.ntmps3
  go_upto_region 1 with fail
  have hbp := below_new1 w (.cells #[.int .i64 x, .int .i64 y] 23)
  have zp : (w.alloc (.cells #[.int .i64 x, .int .i64 y] 23)).heap.size = w.heap.size + 1 := by simp
  have HB := Lib.hid hbp
  have kp := Lib.hid (Lok.new w 23 #[.int .i64 x, .int .i64 y])
  clear hbp
  generalize w.alloc (.cells #[.int .i64 x, .int .i64 y] 23) = Vp at *
  have hba := below_new1 Vp (.cells #[.int .i64 a1, .int .i64 a2, .int .i64 b1, .int .i64 b2, .int .i64 c1, .int .i64 c2] 24)
  replace kp := Lib.hid (kp.out.keep hba)
  have za : (Vp.alloc (.cells #[.int .i64 a1, .int .i64 a2, .int .i64 b1, .int .i64 b2, .int .i64 c1, .int .i64 c2] 24)).heap.size = Vp.heap.size + 1 := by simp
  replace HB := Lib.hid (HB.out.trans (hba.mono HB.out.size))
  have ka := Lib.hid (Lok.new Vp 24 #[.int .i64 a1, .int .i64 a2, .int .i64 b1, .int .i64 b2, .int .i64 c1, .int .i64 c2])
  clear hba
  generalize Vp.alloc (.cells #[.int .i64 a1, .int .i64 a2, .int .i64 b1, .int .i64 b2, .int .i64 c1, .int .i64 c2] 24) = Va at *
  rw [zp] at ka za
  have hbb := below_new1 Va (.cells #[.int .i64 d1, .int .i64 d2, .int .i64 e1, .int .i64 e2, .int .i64 f1, .int .i64 f2] 24)
  replace kp := Lib.hid (kp.out.keep hbb)
  replace ka := Lib.hid (ka.out.keep hbb)
  have zb : (Va.alloc (.cells #[.int .i64 d1, .int .i64 d2, .int .i64 e1, .int .i64 e2, .int .i64 f1, .int .i64 f2] 24)).heap.size = Va.heap.size + 1 := by simp
  replace HB := Lib.hid (HB.out.trans (hbb.mono HB.out.size))
  have kb := Lib.hid (Lok.new Va 24 #[.int .i64 d1, .int .i64 d2, .int .i64 e1, .int .i64 e2, .int .i64 f1, .int .i64 f2])
  clear hbb
  generalize Va.alloc (.cells #[.int .i64 d1, .int .i64 d2, .int .i64 e1, .int .i64 e2, .int .i64 f1, .int .i64 f2] 24) = Vb at *
  rw [za] at kb
  clear zp za zb
  have p0 := kp.out.cell (i := 0) rfl
  have p1 := kp.out.cell (i := 1) rfl
  have a0 := ka.out.cell (i := 0) rfl
  have a1 := ka.out.cell (i := 1) rfl
  have a2 := ka.out.cell (i := 2) rfl
  have a3 := ka.out.cell (i := 3) rfl
  have a4 := ka.out.cell (i := 4) rfl
  have a5 := ka.out.cell (i := 5) rfl
  go_wp2_with fail
  clear p0 p1 a0 a1 a2 a3 a4 a5
  (((with_reducible refine (I1.out _).mono ?_); rintro e w1 ⟨rfl, hb1⟩); replace HB := Lib.hid (HB.out.trans (hb1.mono HB.out.size)); replace kp := Lib.hid (kp.out.keep hb1); replace ka := Lib.hid (ka.out.keep hb1); replace kb := Lib.hid (kb.out.keep hb1); clear hb1)
  clear I1
  have p0 := kp.out.cell (i := 0) rfl
  have p1 := kp.out.cell (i := 1) rfl
  have a0 := ka.out.cell (i := 0) rfl
  have a1 := ka.out.cell (i := 1) rfl
  have a2 := ka.out.cell (i := 2) rfl
  have a3 := ka.out.cell (i := 3) rfl
  have a4 := ka.out.cell (i := 4) rfl
  have a5 := ka.out.cell (i := 5) rfl
  go_wp2_with fail
  clear p0 p1 a0 a1 a2 a3 a4 a5
  (((with_reducible refine (I2.out _).mono ?_); rintro e w2 ⟨rfl, hb2⟩); replace HB := Lib.hid (HB.out.trans (hb2.mono HB.out.size)); replace kp := Lib.hid (kp.out.keep hb2); replace ka := Lib.hid (ka.out.keep hb2); replace kb := Lib.hid (kb.out.keep hb2); clear hb2)
  clear I2
  have a0 := ka.out.cell (i := 0) rfl
  have a1 := ka.out.cell (i := 1) rfl
  have a2 := ka.out.cell (i := 2) rfl
  have a3 := ka.out.cell (i := 3) rfl
  have a4 := ka.out.cell (i := 4) rfl
  have a5 := ka.out.cell (i := 5) rfl
  have b0 := kb.out.cell (i := 0) rfl
  have b1 := kb.out.cell (i := 1) rfl
  have b2 := kb.out.cell (i := 2) rfl
  have b3 := kb.out.cell (i := 3) rfl
  have b4 := kb.out.cell (i := 4) rfl
  have b5 := kb.out.cell (i := 5) rfl
  go_wp2_with fail
  clear a0 a1 a2 a3 a4 a5 b0 b1 b2 b3 b4 b5
  (((with_reducible refine (O1.out _).mono ?_); rintro e w3 ⟨rfl, hb3⟩); replace HB := Lib.hid (HB.out.trans (hb3.mono HB.out.size)); replace kp := Lib.hid (kp.out.keep hb3); replace ka := Lib.hid (ka.out.keep hb3); replace kb := Lib.hid (kb.out.keep hb3); clear hb3)
  clear O1
  have a0 := ka.out.cell (i := 0) rfl
  have a1 := ka.out.cell (i := 1) rfl
  have a2 := ka.out.cell (i := 2) rfl
  have a3 := ka.out.cell (i := 3) rfl
  have a4 := ka.out.cell (i := 4) rfl
  have a5 := ka.out.cell (i := 5) rfl
  have b0 := kb.out.cell (i := 0) rfl
  have b1 := kb.out.cell (i := 1) rfl
  have b2 := kb.out.cell (i := 2) rfl
  have b3 := kb.out.cell (i := 3) rfl
  have b4 := kb.out.cell (i := 4) rfl
  have b5 := kb.out.cell (i := 5) rfl
  go_wp2_with fail
  clear a0 a1 a2 a3 a4 a5 b0 b1 b2 b3 b4 b5
  (((with_reducible refine (O2.out _).mono ?_); rintro e w4 ⟨rfl, hb4⟩); replace HB := Lib.hid (HB.out.trans (hb4.mono HB.out.size)); replace kp := Lib.hid (kp.out.keep hb4); replace ka := Lib.hid (ka.out.keep hb4); replace kb := Lib.hid (kb.out.keep hb4); clear hb4)
  clear O2
  have a0 := ka.out.cell (i := 0) rfl
  have a1 := ka.out.cell (i := 1) rfl
  have a2 := ka.out.cell (i := 2) rfl
  have a3 := ka.out.cell (i := 3) rfl
  have a4 := ka.out.cell (i := 4) rfl
  have a5 := ka.out.cell (i := 5) rfl
  have b0 := kb.out.cell (i := 0) rfl
  have b1 := kb.out.cell (i := 1) rfl
  have b2 := kb.out.cell (i := 2) rfl
  have b3 := kb.out.cell (i := 3) rfl
  have b4 := kb.out.cell (i := 4) rfl
  have b5 := kb.out.cell (i := 5) rfl
  go_wp2_with fail
  clear a0 a1 a2 a3 a4 a5 b0 b1 b2 b3 b4 b5
  (((with_reducible refine (T1.out _).mono ?_); rintro e w5 ⟨rfl, hb5⟩); replace HB := Lib.hid (HB.out.trans (hb5.mono HB.out.size)); replace kp := Lib.hid (kp.out.keep hb5); replace ka := Lib.hid (ka.out.keep hb5); replace kb := Lib.hid (kb.out.keep hb5); clear hb5)
  clear T1
  have a0 := ka.out.cell (i := 0) rfl
  have a1 := ka.out.cell (i := 1) rfl
  have a2 := ka.out.cell (i := 2) rfl
  have a3 := ka.out.cell (i := 3) rfl
  have a4 := ka.out.cell (i := 4) rfl
  have a5 := ka.out.cell (i := 5) rfl
  have b0 := kb.out.cell (i := 0) rfl
  have b1 := kb.out.cell (i := 1) rfl
  have b2 := kb.out.cell (i := 2) rfl
  have b3 := kb.out.cell (i := 3) rfl
  have b4 := kb.out.cell (i := 4) rfl
  have b5 := kb.out.cell (i := 5) rfl
  go_wp2_with fail
  clear a0 a1 a2 a3 a4 a5 b0 b1 b2 b3 b4 b5
  (((with_reducible refine (T2.out _).mono ?_); rintro e w6 ⟨rfl, hb6⟩); replace HB := Lib.hid (HB.out.trans (hb6.mono HB.out.size)); replace kp := Lib.hid (kp.out.keep hb6); replace ka := Lib.hid (ka.out.keep hb6); replace kb := Lib.hid (kb.out.keep hb6); clear hb6)
  clear T2
  have p0 := kp.out.cell (i := 0) rfl
  have p1 := kp.out.cell (i := 1) rfl
  have a0 := ka.out.cell (i := 0) rfl
  have a1 := ka.out.cell (i := 1) rfl
  have a2 := ka.out.cell (i := 2) rfl
  have a3 := ka.out.cell (i := 3) rfl
  have a4 := ka.out.cell (i := 4) rfl
  have a5 := ka.out.cell (i := 5) rfl
  go_wp2_with fail
  clear p0 p1 a0 a1 a2 a3 a4 a5
  (((with_reducible refine (S1.out _).mono ?_); rintro e w7 ⟨rfl, hb7⟩); replace HB := Lib.hid (HB.out.trans (hb7.mono HB.out.size)); replace kp := Lib.hid (kp.out.keep hb7); replace ka := Lib.hid (ka.out.keep hb7); replace kb := Lib.hid (kb.out.keep hb7); clear hb7)
  clear S1
  have p0 := kp.out.cell (i := 0) rfl
  have p1 := kp.out.cell (i := 1) rfl
  have a0 := ka.out.cell (i := 0) rfl
  have a1 := ka.out.cell (i := 1) rfl
  have a2 := ka.out.cell (i := 2) rfl
  have a3 := ka.out.cell (i := 3) rfl
  have a4 := ka.out.cell (i := 4) rfl
  have a5 := ka.out.cell (i := 5) rfl
  go_wp2_with fail
  clear p0 p1 a0 a1 a2 a3 a4 a5
  (((with_reducible refine (S2.out _).mono ?_); rintro e w8 ⟨rfl, hb8⟩); replace HB := Lib.hid (HB.out.trans (hb8.mono HB.out.size)); replace kp := Lib.hid (kp.out.keep hb8); replace ka := Lib.hid (ka.out.keep hb8); replace kb := Lib.hid (kb.out.keep hb8); clear hb8)
  clear S2
  go_upto_region 9 with fail
  have qa0 : ∀ D : Of (PastV w8), _ := fun D => (ka.out.keep (show Below w8.heap.size w8 D.world from D.holds)).cell (i := 0) rfl
  have qa1 : ∀ D : Of (PastV w8), _ := fun D => (ka.out.keep (show Below w8.heap.size w8 D.world from D.holds)).cell (i := 1) rfl
  have qa2 : ∀ D : Of (PastV w8), _ := fun D => (ka.out.keep (show Below w8.heap.size w8 D.world from D.holds)).cell (i := 2) rfl
  have qa3 : ∀ D : Of (PastV w8), _ := fun D => (ka.out.keep (show Below w8.heap.size w8 D.world from D.holds)).cell (i := 3) rfl
  have qa4 : ∀ D : Of (PastV w8), _ := fun D => (ka.out.keep (show Below w8.heap.size w8 D.world from D.holds)).cell (i := 4) rfl
  have qa5 : ∀ D : Of (PastV w8), _ := fun D => (ka.out.keep (show Below w8.heap.size w8 D.world from D.holds)).cell (i := 5) rfl
  have ST := Lib.hid (pastV_stays w8)
  have ne : Nonempty (Of (PastV w8)) := ⟨⟨w8, Below.refl _ _⟩⟩
  refine wp_region_class (S := PastV w8) (by kernel_rfl) (by kernel_rfl) (Below.refl _ _).drew ?_
  repeat (go_big_quiet_step (first | (go_at_call 16; first | (with_reducible exact class_call ST.out _ (ME.out _))) | (go_at_call 17; first | (with_reducible exact class_call ST.out _ (R1.out _))) | (go_at_call 18; first | (with_reducible exact class_call ST.out _ (R2.out _)))))
  refine wpQuiet_nil ?_
  rintro _ ⟨D, rfl⟩
  have hD : Below w8.heap.size w8 D.world := D.holds
  replace HB := Lib.hid (HB.out.trans (hD.mono HB.out.size))
  replace kp := Lib.hid (kp.out.keep hD)
  replace ka := Lib.hid (ka.out.keep hD)
  replace kb := Lib.hid (kb.out.keep hD)
  generalize D.world = vd at *
  clear qa0 qa1 qa2 qa3 qa4 qa5 ne ST hD
  go_wp2
  go_ret
  exact ⟨rfl, HB.out⟩
end Go.Proofs.Ythdcldbocakbpaa
