/-
  NearEdge, walked. (gen/NrR.py)
-/
import Derived.Test.YtllamakemgogaaaNrN
namespace Go.Proofs.Ytllamakemgogaaa
open Go.RowKit

set_option maxRecDepth 100000 in
set_option maxHeartbeats 8000000 in
theorem law_edge (x y a1 a2 b1 b2 : Int) (w : World) :
    Calls Try.prog 5 #[.agg #[.int .i64 x, .int .i64 y], .agg #[.int .i64 a1, .int .i64 a2], .agg #[.int .i64 b1, .int .i64 b2]] w fun e' w' => e' = .returned (.bool true) ∧ Below w.heap.size w w' := by
  have HB := Lib.hid (Below.refl w.heap.size w)
  have ME := Lib.hid (fun W => neared_any W)
  cases hs : (s2 x y && s2 a1 a2 && s2 b1 b2) with
  | false =>
    have E1 := Lib.hid (fun W => edge_any x y a1 a2 b1 b2 false hs W)
    have S := Lib.hid (fun g T W h => small2_3 x y a1 a2 b1 b2 false hs g T W h)
    simp only [vF_no, show rE false = 5 from rfl] at E1
    have zz : q2 0 0 0 0 = true := by decide
    clear hs
    go_enter Try.func5, Try.ntmps5
    go_upto_region 1 with fail
    have hbp := below_new1 w (.cells #[.int .i64 x, .int .i64 y] 23)
    have zp : (w.alloc (.cells #[.int .i64 x, .int .i64 y] 23)).heap.size = w.heap.size + 1 := by simp
    have HB := Lib.hid hbp
    have kp := Lib.hid (Lok.new w 23 #[.int .i64 x, .int .i64 y])
    clear hbp
    generalize w.alloc (.cells #[.int .i64 x, .int .i64 y] 23) = Vp at *
    have hba := below_new1 Vp (.cells #[.int .i64 a1, .int .i64 a2] 23)
    replace kp := Lib.hid (kp.out.keep hba)
    have za : (Vp.alloc (.cells #[.int .i64 a1, .int .i64 a2] 23)).heap.size = Vp.heap.size + 1 := by simp
    replace HB := Lib.hid (HB.out.trans (hba.mono HB.out.size))
    have ka := Lib.hid (Lok.new Vp 23 #[.int .i64 a1, .int .i64 a2])
    clear hba
    generalize Vp.alloc (.cells #[.int .i64 a1, .int .i64 a2] 23) = Va at *
    rw [zp] at ka za
    have hbb := below_new1 Va (.cells #[.int .i64 b1, .int .i64 b2] 23)
    replace kp := Lib.hid (kp.out.keep hbb)
    replace ka := Lib.hid (ka.out.keep hbb)
    have zb : (Va.alloc (.cells #[.int .i64 b1, .int .i64 b2] 23)).heap.size = Va.heap.size + 1 := by simp
    replace HB := Lib.hid (HB.out.trans (hbb.mono HB.out.size))
    have kb := Lib.hid (Lok.new Va 23 #[.int .i64 b1, .int .i64 b2])
    clear hbb
    generalize Va.alloc (.cells #[.int .i64 b1, .int .i64 b2] 23) = Vb at *
    rw [za] at kb
    clear zp za zb
    have p0 := kp.out.cell (i := 0) rfl
    have p1 := kp.out.cell (i := 1) rfl
    have a0 := ka.out.cell (i := 0) rfl
    have a1 := ka.out.cell (i := 1) rfl
    have b0 := kb.out.cell (i := 0) rfl
    have b1 := kb.out.cell (i := 1) rfl
    go_wp2_with fail
    clear p0 p1 a0 a1 b0 b1
    (((with_reducible refine (E1.out _).mono ?_); rintro e w1 ⟨rfl, hb1⟩); replace HB := Lib.hid (HB.out.trans (hb1.mono HB.out.size)); replace kp := Lib.hid (kp.out.keep hb1); replace ka := Lib.hid (ka.out.keep hb1); replace kb := Lib.hid (kb.out.keep hb1); clear hb1)
    go_upto_region 2 with fail
    have hbm := below_new1 w1 (.cells #[.int .i64 0, .int .i64 0] 23)
    replace kp := Lib.hid (kp.out.keep hbm)
    replace ka := Lib.hid (ka.out.keep hbm)
    replace kb := Lib.hid (kb.out.keep hbm)
    have zm : (w1.alloc (.cells #[.int .i64 0, .int .i64 0] 23)).heap.size = w1.heap.size + 1 := by simp
    replace HB := Lib.hid (HB.out.trans (hbm.mono HB.out.size))
    have km := Lib.hid (Lok.new w1 23 #[.int .i64 0, .int .i64 0])
    clear hbm
    generalize w1.alloc (.cells #[.int .i64 0, .int .i64 0] 23) = Vm at *
    have hbn := below_new1 Vm (.cells #[.int .i64 0, .int .i64 0] 29)
    replace kp := Lib.hid (kp.out.keep hbn)
    replace ka := Lib.hid (ka.out.keep hbn)
    replace kb := Lib.hid (kb.out.keep hbn)
    replace km := Lib.hid (km.out.keep hbn)
    have zn : (Vm.alloc (.cells #[.int .i64 0, .int .i64 0] 29)).heap.size = Vm.heap.size + 1 := by simp
    replace HB := Lib.hid (HB.out.trans (hbn.mono HB.out.size))
    have kn := Lib.hid (Lok.new Vm 29 #[.int .i64 0, .int .i64 0])
    clear hbn
    generalize Vm.alloc (.cells #[.int .i64 0, .int .i64 0] 29) = Vn at *
    rw [zm] at kn
    clear zm zn
    generalize w1.heap.size = gm at *
    go_wp2_with fail
    (((with_reducible refine (ME.out _).mono ?_); rintro e w2 ⟨rfl, hb2⟩); replace HB := Lib.hid (HB.out.trans (hb2.mono HB.out.size)); replace kp := Lib.hid (kp.out.keep hb2); replace ka := Lib.hid (ka.out.keep hb2); replace kb := Lib.hid (kb.out.keep hb2); replace km := Lib.hid (km.out.keep hb2); clear hb2)
    have p0 := kp.out.cell (i := 0) rfl
    have p1 := kp.out.cell (i := 1) rfl
    have a0 := ka.out.cell (i := 0) rfl
    have a1 := ka.out.cell (i := 1) rfl
    have b0 := kb.out.cell (i := 0) rfl
    have b1 := kb.out.cell (i := 1) rfl
    go_wp2_with fail
    clear p0 p1 a0 a1 b0 b1
    have hbs := below_new1 w2 (.cells #[.int .i64 x, .int .i64 y, .int .i64 a1, .int .i64 a2, .int .i64 b1, .int .i64 b2] 23)
    replace km := Lib.hid (km.out.keep hbs)
    have zs : (w2.alloc (.cells #[.int .i64 x, .int .i64 y, .int .i64 a1, .int .i64 a2, .int .i64 b1, .int .i64 b2] 23)).heap.size = w2.heap.size + 1 := by simp
    replace HB := Lib.hid (HB.out.trans (hbs.mono HB.out.size))
    have ks := Lib.hid (Lok.new w2 23 #[.int .i64 x, .int .i64 y, .int .i64 a1, .int .i64 a2, .int .i64 b1, .int .i64 b2])
    clear hbs
    generalize w2.alloc (.cells #[.int .i64 x, .int .i64 y, .int .i64 a1, .int .i64 a2, .int .i64 b1, .int .i64 b2] 23) = Vs at *
    clear zs
    generalize w2.heap.size = gs at *
    (((with_reducible refine (S.out _ _ _ ks.out).mono ?_); rintro e w3 ⟨rfl, hb3⟩); replace HB := Lib.hid (HB.out.trans (hb3.mono HB.out.size)); replace km := Lib.hid (km.out.keep hb3); clear hb3)
    have m0 := km.out.cell (i := 0) rfl
    have m1 := km.out.cell (i := 1) rfl
    go_wp2
    go_ret
    exact ⟨rfl, HB.out⟩
  | true =>
    obtain ⟨hp, ha, hb⟩ := small_of3 hs
    have hs' : (s2 x y && s2 b1 b2 && s2 a1 a2) = true := by rw [hp, ha, hb]; rfl
    have E1 := Lib.hid (fun W => edge_any x y a1 a2 b1 b2 true hs W)
    have E2 := Lib.hid (fun W => edge_any x y b1 b2 a1 a2 true hs' W)
    simp only [vF_yes, show rE true = 0 from rfl] at E1 E2
    obtain ⟨r1', r2', r3'⟩ := edge_rev x y a1 a2 b1 b2
    rw [r1', r2'] at E2
    have SA := Lib.hid (fun W => lsquare_any x y a1 a2 hp ha W)
    have SB := Lib.hid (fun W => lsquare_any x y b1 b2 hp hb W)
    have ca := edge_cmp_a hp ha hb
    have cb := edge_cmp_b hp ha hb
    obtain ⟨fr, fn⟩ := edge_fr hp ha hb
    have fd := fr.1
    obtain ⟨⟨bx1, bx2⟩, by1, by2⟩ := foot_box x y a1 a2 b1 b2
    have ways := fK_ways x y a1 a2 b1 b2
    clear hp ha hb hs hs' fr r1' r2'
    generalize fX x y a1 a2 b1 b2 = u at *
    generalize fY x y a1 a2 b1 b2 = v at *
    generalize fK x y a1 a2 b1 b2 = k at *
    generalize fN x y a1 a2 b1 b2 = n at *
    generalize fD x y a1 a2 b1 b2 = d at *
    generalize fX x y b1 b2 a1 a2 = u' at *
    generalize fY x y b1 b2 a1 a2 = v' at *
    generalize fK x y b1 b2 a1 a2 = l at *
    generalize sq x y a1 a2 = sa at *
    generalize sq x y b1 b2 = sb at *
    have KA := Lib.hid (fun W => fcmp_any n d sa 1 W)
    have KB := Lib.hid (fun W => fcmp_any n d sb 1 W)
    have KS := Lib.hid (fun W => fcmp_any n d n d W)
    rw [cmpF_self] at KS
    generalize cmpF n d sa 1 = ma at *
    generalize cmpF n d sb 1 = mb at *
    replace ca : decide (0 < ma) = false := decide_eq_false (by omega)
    replace cb : decide (0 < mb) = false := decide_eq_false (by omega)
    replace fn : decide (n < 0) = false := decide_eq_false (by omega)
    replace fd : decide (d < 1) = false := decide_eq_false (by omega)
    replace bx1 : decide (u < min a1 b1) = false := decide_eq_false (by omega)
    replace bx2 : decide (max a1 b1 < u) = false := decide_eq_false (by omega)
    replace by1 : decide (v < min a2 b2) = false := decide_eq_false (by omega)
    replace by2 : decide (max a2 b2 < v) = false := decide_eq_false (by omega)
    rcases ways with ⟨rfl, hu, hv, hn, rfl⟩ | ⟨rfl, hu, hv, rfl⟩ | rfl
    · replace hu := hu.symm
      replace hv := hv.symm
      replace hn := hn.symm
      subst hu hv hn
      have l2' : (l == 2) = false := r3'
      have z1 := q2_self a1 a2
      have z2 := q2_self sa 1
      clear r3'
      go_enter Try.func5, Try.ntmps5
      go_upto_region 1 with fail
      have hbp := below_new1 w (.cells #[.int .i64 x, .int .i64 y] 23)
      have zp : (w.alloc (.cells #[.int .i64 x, .int .i64 y] 23)).heap.size = w.heap.size + 1 := by simp
      have HB := Lib.hid hbp
      have kp := Lib.hid (Lok.new w 23 #[.int .i64 x, .int .i64 y])
      clear hbp
      generalize w.alloc (.cells #[.int .i64 x, .int .i64 y] 23) = Vp at *
      have hba := below_new1 Vp (.cells #[.int .i64 a1, .int .i64 a2] 23)
      replace kp := Lib.hid (kp.out.keep hba)
      have za : (Vp.alloc (.cells #[.int .i64 a1, .int .i64 a2] 23)).heap.size = Vp.heap.size + 1 := by simp
      replace HB := Lib.hid (HB.out.trans (hba.mono HB.out.size))
      have ka := Lib.hid (Lok.new Vp 23 #[.int .i64 a1, .int .i64 a2])
      clear hba
      generalize Vp.alloc (.cells #[.int .i64 a1, .int .i64 a2] 23) = Va at *
      rw [zp] at ka za
      have hbb := below_new1 Va (.cells #[.int .i64 b1, .int .i64 b2] 23)
      replace kp := Lib.hid (kp.out.keep hbb)
      replace ka := Lib.hid (ka.out.keep hbb)
      have zb : (Va.alloc (.cells #[.int .i64 b1, .int .i64 b2] 23)).heap.size = Va.heap.size + 1 := by simp
      replace HB := Lib.hid (HB.out.trans (hbb.mono HB.out.size))
      have kb := Lib.hid (Lok.new Va 23 #[.int .i64 b1, .int .i64 b2])
      clear hbb
      generalize Va.alloc (.cells #[.int .i64 b1, .int .i64 b2] 23) = Vb at *
      rw [za] at kb
      clear zp za zb
      have p0 := kp.out.cell (i := 0) rfl
      have p1 := kp.out.cell (i := 1) rfl
      have a0 := ka.out.cell (i := 0) rfl
      have a1 := ka.out.cell (i := 1) rfl
      have b0 := kb.out.cell (i := 0) rfl
      have b1 := kb.out.cell (i := 1) rfl
      go_wp2_with fail
      clear p0 p1 a0 a1 b0 b1
      (((with_reducible refine (E1.out _).mono ?_); rintro e w1 ⟨rfl, hb1⟩); replace HB := Lib.hid (HB.out.trans (hb1.mono HB.out.size)); replace kp := Lib.hid (kp.out.keep hb1); replace ka := Lib.hid (ka.out.keep hb1); replace kb := Lib.hid (kb.out.keep hb1); clear hb1)
      go_upto_region 2 with fail
      have hbm := below_new1 w1 (.cells #[.int .i64 a1, .int .i64 a2] 23)
      replace kp := Lib.hid (kp.out.keep hbm)
      replace ka := Lib.hid (ka.out.keep hbm)
      replace kb := Lib.hid (kb.out.keep hbm)
      have zm : (w1.alloc (.cells #[.int .i64 a1, .int .i64 a2] 23)).heap.size = w1.heap.size + 1 := by simp
      replace HB := Lib.hid (HB.out.trans (hbm.mono HB.out.size))
      have km := Lib.hid (Lok.new w1 23 #[.int .i64 a1, .int .i64 a2])
      clear hbm
      generalize w1.alloc (.cells #[.int .i64 a1, .int .i64 a2] 23) = Vm at *
      have hbn := below_new1 Vm (.cells #[.int .i64 sa, .int .i64 1] 29)
      replace kp := Lib.hid (kp.out.keep hbn)
      replace ka := Lib.hid (ka.out.keep hbn)
      replace kb := Lib.hid (kb.out.keep hbn)
      replace km := Lib.hid (km.out.keep hbn)
      have zn : (Vm.alloc (.cells #[.int .i64 sa, .int .i64 1] 29)).heap.size = Vm.heap.size + 1 := by simp
      replace HB := Lib.hid (HB.out.trans (hbn.mono HB.out.size))
      have kn := Lib.hid (Lok.new Vm 29 #[.int .i64 sa, .int .i64 1])
      clear hbn
      generalize Vm.alloc (.cells #[.int .i64 sa, .int .i64 1] 29) = Vn at *
      rw [zm] at kn
      clear zm zn
      generalize w1.heap.size = gm at *
      have p0 := kp.out.cell (i := 0) rfl
      have p1 := kp.out.cell (i := 1) rfl
      have a0 := ka.out.cell (i := 0) rfl
      have a1 := ka.out.cell (i := 1) rfl
      have b0 := kb.out.cell (i := 0) rfl
      have b1 := kb.out.cell (i := 1) rfl
      go_wp2_with fail
      clear p0 p1 a0 a1 b0 b1
      (((with_reducible refine (E2.out _).mono ?_); rintro e w2 ⟨rfl, hb2⟩); replace HB := Lib.hid (HB.out.trans (hb2.mono HB.out.size)); replace kp := Lib.hid (kp.out.keep hb2); replace ka := Lib.hid (ka.out.keep hb2); replace kb := Lib.hid (kb.out.keep hb2); replace km := Lib.hid (km.out.keep hb2); replace kn := Lib.hid (kn.out.keep hb2); clear hb2)
      go_upto_region 5 with fail
      have hbf := below_new1 w2 (.cells #[.int .i64 u', .int .i64 v'] 23)
      replace kp := Lib.hid (kp.out.keep hbf)
      replace ka := Lib.hid (ka.out.keep hbf)
      replace kb := Lib.hid (kb.out.keep hbf)
      replace km := Lib.hid (km.out.keep hbf)
      replace kn := Lib.hid (kn.out.keep hbf)
      have zf : (w2.alloc (.cells #[.int .i64 u', .int .i64 v'] 23)).heap.size = w2.heap.size + 1 := by simp
      replace HB := Lib.hid (HB.out.trans (hbf.mono HB.out.size))
      have kf := Lib.hid (Lok.new w2 23 #[.int .i64 u', .int .i64 v'])
      clear hbf
      generalize w2.alloc (.cells #[.int .i64 u', .int .i64 v'] 23) = Vf at *
      have hbg := below_new1 Vf (.cells #[.int .i64 sa, .int .i64 1] 29)
      replace kp := Lib.hid (kp.out.keep hbg)
      replace ka := Lib.hid (ka.out.keep hbg)
      replace kb := Lib.hid (kb.out.keep hbg)
      replace km := Lib.hid (km.out.keep hbg)
      replace kn := Lib.hid (kn.out.keep hbg)
      replace kf := Lib.hid (kf.out.keep hbg)
      have zg : (Vf.alloc (.cells #[.int .i64 sa, .int .i64 1] 29)).heap.size = Vf.heap.size + 1 := by simp
      replace HB := Lib.hid (HB.out.trans (hbg.mono HB.out.size))
      have kg := Lib.hid (Lok.new Vf 29 #[.int .i64 sa, .int .i64 1])
      clear hbg
      generalize Vf.alloc (.cells #[.int .i64 sa, .int .i64 1] 29) = Vg at *
      rw [zf] at kg
      clear zf zg
      generalize w2.heap.size = gf at *
      have n0 := kn.out.cell (i := 0) rfl
      have n1 := kn.out.cell (i := 1) rfl
      have g0 := kg.out.cell (i := 0) rfl
      have g1 := kg.out.cell (i := 1) rfl
      go_wp2_with fail
      clear n0 n1 g0 g1
      (((with_reducible refine (KS.out _).mono ?_); rintro e w3 ⟨rfl, hb3⟩); replace HB := Lib.hid (HB.out.trans (hb3.mono HB.out.size)); replace kp := Lib.hid (kp.out.keep hb3); replace ka := Lib.hid (ka.out.keep hb3); replace kb := Lib.hid (kb.out.keep hb3); replace km := Lib.hid (km.out.keep hb3); replace kn := Lib.hid (kn.out.keep hb3); clear hb3)
      have n0 := kn.out.cell (i := 0) rfl
      have n1 := kn.out.cell (i := 1) rfl
      go_upto_region 7 with fail
      clear n0 n1
      have qp0 : ∀ D : Of (PastV w3), _ := fun D => (kp.out.keep (show Below w3.heap.size w3 D.world from D.holds)).cell (i := 0) rfl
      have qp1 : ∀ D : Of (PastV w3), _ := fun D => (kp.out.keep (show Below w3.heap.size w3 D.world from D.holds)).cell (i := 1) rfl
      have qa0 : ∀ D : Of (PastV w3), _ := fun D => (ka.out.keep (show Below w3.heap.size w3 D.world from D.holds)).cell (i := 0) rfl
      have qa1 : ∀ D : Of (PastV w3), _ := fun D => (ka.out.keep (show Below w3.heap.size w3 D.world from D.holds)).cell (i := 1) rfl
      have qb0 : ∀ D : Of (PastV w3), _ := fun D => (kb.out.keep (show Below w3.heap.size w3 D.world from D.holds)).cell (i := 0) rfl
      have qb1 : ∀ D : Of (PastV w3), _ := fun D => (kb.out.keep (show Below w3.heap.size w3 D.world from D.holds)).cell (i := 1) rfl
      have qn0 : ∀ D : Of (PastV w3), _ := fun D => (kn.out.keep (show Below w3.heap.size w3 D.world from D.holds)).cell (i := 0) rfl
      have qn1 : ∀ D : Of (PastV w3), _ := fun D => (kn.out.keep (show Below w3.heap.size w3 D.world from D.holds)).cell (i := 1) rfl
      have ST := Lib.hid (pastV_stays w3)
      have ne : Nonempty (Of (PastV w3)) := ⟨⟨w3, Below.refl _ _⟩⟩
      refine wp_region_class (S := PastV w3) (by kernel_rfl) (by kernel_rfl) (Below.refl _ _).drew ?_
      repeat (go_big_quiet_step (first | (go_at_call 20; first | (with_reducible exact class_call ST.out _ (SA.out _)) | (with_reducible exact class_call ST.out _ (SB.out _))) | (go_at_call 19; first | (with_reducible exact class_call ST.out _ (KA.out _)) | (with_reducible exact class_call ST.out _ (KB.out _)))))
      refine wpQuiet_nil ?_
      rintro _ ⟨D, rfl⟩
      have hD : Below w3.heap.size w3 D.world := D.holds
      replace HB := Lib.hid (HB.out.trans (hD.mono HB.out.size))
      replace kp := Lib.hid (kp.out.keep hD)
      replace ka := Lib.hid (ka.out.keep hD)
      replace kb := Lib.hid (kb.out.keep hD)
      replace km := Lib.hid (km.out.keep hD)
      replace kn := Lib.hid (kn.out.keep hD)
      generalize D.world = vd at *
      clear qp0 qp1 qa0 qa1 qb0 qb1 qn0 qn1 ne ST hD
      have m0 := km.out.cell (i := 0) rfl
      have m1 := km.out.cell (i := 1) rfl
      have a0 := ka.out.cell (i := 0) rfl
      have a1 := ka.out.cell (i := 1) rfl
      have b0 := kb.out.cell (i := 0) rfl
      have b1 := kb.out.cell (i := 1) rfl
      go_upto_region 11 with fail
      clear m0 m1 a0 a1 b0 b1
      have qp0 : ∀ D : Of (PastV vd), _ := fun D => (kp.out.keep (show Below vd.heap.size vd D.world from D.holds)).cell (i := 0) rfl
      have qp1 : ∀ D : Of (PastV vd), _ := fun D => (kp.out.keep (show Below vd.heap.size vd D.world from D.holds)).cell (i := 1) rfl
      have qa0 : ∀ D : Of (PastV vd), _ := fun D => (ka.out.keep (show Below vd.heap.size vd D.world from D.holds)).cell (i := 0) rfl
      have qa1 : ∀ D : Of (PastV vd), _ := fun D => (ka.out.keep (show Below vd.heap.size vd D.world from D.holds)).cell (i := 1) rfl
      have qb0 : ∀ D : Of (PastV vd), _ := fun D => (kb.out.keep (show Below vd.heap.size vd D.world from D.holds)).cell (i := 0) rfl
      have qb1 : ∀ D : Of (PastV vd), _ := fun D => (kb.out.keep (show Below vd.heap.size vd D.world from D.holds)).cell (i := 1) rfl
      have qm0 : ∀ D : Of (PastV vd), _ := fun D => (km.out.keep (show Below vd.heap.size vd D.world from D.holds)).cell (i := 0) rfl
      have qm1 : ∀ D : Of (PastV vd), _ := fun D => (km.out.keep (show Below vd.heap.size vd D.world from D.holds)).cell (i := 1) rfl
      have qn0 : ∀ D : Of (PastV vd), _ := fun D => (kn.out.keep (show Below vd.heap.size vd D.world from D.holds)).cell (i := 0) rfl
      have qn1 : ∀ D : Of (PastV vd), _ := fun D => (kn.out.keep (show Below vd.heap.size vd D.world from D.holds)).cell (i := 1) rfl
      have ST := Lib.hid (pastV_stays vd)
      have ne : Nonempty (Of (PastV vd)) := ⟨⟨vd, Below.refl _ _⟩⟩
      refine wp_region_class (S := PastV vd) (by kernel_rfl) (by kernel_rfl) (Below.refl _ _).drew ?_
      repeat (go_big_quiet_step (first | (go_at_call 16; first | (with_reducible exact class_call ST.out _ (ME.out _))) | (go_at_call 20; first | (with_reducible exact class_call ST.out _ (SA.out _)))))
      refine wpQuiet_nil ?_
      rintro _ ⟨D, rfl⟩
      have hD : Below vd.heap.size vd D.world := D.holds
      replace HB := Lib.hid (HB.out.trans (hD.mono HB.out.size))
      replace kp := Lib.hid (kp.out.keep hD)
      replace ka := Lib.hid (ka.out.keep hD)
      replace kb := Lib.hid (kb.out.keep hD)
      replace km := Lib.hid (km.out.keep hD)
      replace kn := Lib.hid (kn.out.keep hD)
      generalize D.world = ve at *
      clear qp0 qp1 qa0 qa1 qb0 qb1 qm0 qm1 qn0 qn1 ne ST hD
      go_wp2
      go_ret
      exact ⟨rfl, HB.out⟩
    · replace hu := hu.symm
      replace hv := hv.symm
      subst hu hv
      have l2' : (l == 2) = false := r3'
      have z1 := q2_self b1 b2
      clear r3'
      go_enter Try.func5, Try.ntmps5
      go_upto_region 1 with fail
      have hbp := below_new1 w (.cells #[.int .i64 x, .int .i64 y] 23)
      have zp : (w.alloc (.cells #[.int .i64 x, .int .i64 y] 23)).heap.size = w.heap.size + 1 := by simp
      have HB := Lib.hid hbp
      have kp := Lib.hid (Lok.new w 23 #[.int .i64 x, .int .i64 y])
      clear hbp
      generalize w.alloc (.cells #[.int .i64 x, .int .i64 y] 23) = Vp at *
      have hba := below_new1 Vp (.cells #[.int .i64 a1, .int .i64 a2] 23)
      replace kp := Lib.hid (kp.out.keep hba)
      have za : (Vp.alloc (.cells #[.int .i64 a1, .int .i64 a2] 23)).heap.size = Vp.heap.size + 1 := by simp
      replace HB := Lib.hid (HB.out.trans (hba.mono HB.out.size))
      have ka := Lib.hid (Lok.new Vp 23 #[.int .i64 a1, .int .i64 a2])
      clear hba
      generalize Vp.alloc (.cells #[.int .i64 a1, .int .i64 a2] 23) = Va at *
      rw [zp] at ka za
      have hbb := below_new1 Va (.cells #[.int .i64 b1, .int .i64 b2] 23)
      replace kp := Lib.hid (kp.out.keep hbb)
      replace ka := Lib.hid (ka.out.keep hbb)
      have zb : (Va.alloc (.cells #[.int .i64 b1, .int .i64 b2] 23)).heap.size = Va.heap.size + 1 := by simp
      replace HB := Lib.hid (HB.out.trans (hbb.mono HB.out.size))
      have kb := Lib.hid (Lok.new Va 23 #[.int .i64 b1, .int .i64 b2])
      clear hbb
      generalize Va.alloc (.cells #[.int .i64 b1, .int .i64 b2] 23) = Vb at *
      rw [za] at kb
      clear zp za zb
      have p0 := kp.out.cell (i := 0) rfl
      have p1 := kp.out.cell (i := 1) rfl
      have a0 := ka.out.cell (i := 0) rfl
      have a1 := ka.out.cell (i := 1) rfl
      have b0 := kb.out.cell (i := 0) rfl
      have b1 := kb.out.cell (i := 1) rfl
      go_wp2_with fail
      clear p0 p1 a0 a1 b0 b1
      (((with_reducible refine (E1.out _).mono ?_); rintro e w1 ⟨rfl, hb1⟩); replace HB := Lib.hid (HB.out.trans (hb1.mono HB.out.size)); replace kp := Lib.hid (kp.out.keep hb1); replace ka := Lib.hid (ka.out.keep hb1); replace kb := Lib.hid (kb.out.keep hb1); clear hb1)
      go_upto_region 2 with fail
      have hbm := below_new1 w1 (.cells #[.int .i64 b1, .int .i64 b2] 23)
      replace kp := Lib.hid (kp.out.keep hbm)
      replace ka := Lib.hid (ka.out.keep hbm)
      replace kb := Lib.hid (kb.out.keep hbm)
      have zm : (w1.alloc (.cells #[.int .i64 b1, .int .i64 b2] 23)).heap.size = w1.heap.size + 1 := by simp
      replace HB := Lib.hid (HB.out.trans (hbm.mono HB.out.size))
      have km := Lib.hid (Lok.new w1 23 #[.int .i64 b1, .int .i64 b2])
      clear hbm
      generalize w1.alloc (.cells #[.int .i64 b1, .int .i64 b2] 23) = Vm at *
      have hbn := below_new1 Vm (.cells #[.int .i64 n, .int .i64 1] 29)
      replace kp := Lib.hid (kp.out.keep hbn)
      replace ka := Lib.hid (ka.out.keep hbn)
      replace kb := Lib.hid (kb.out.keep hbn)
      replace km := Lib.hid (km.out.keep hbn)
      have zn : (Vm.alloc (.cells #[.int .i64 n, .int .i64 1] 29)).heap.size = Vm.heap.size + 1 := by simp
      replace HB := Lib.hid (HB.out.trans (hbn.mono HB.out.size))
      have kn := Lib.hid (Lok.new Vm 29 #[.int .i64 n, .int .i64 1])
      clear hbn
      generalize Vm.alloc (.cells #[.int .i64 n, .int .i64 1] 29) = Vn at *
      rw [zm] at kn
      clear zm zn
      generalize w1.heap.size = gm at *
      have p0 := kp.out.cell (i := 0) rfl
      have p1 := kp.out.cell (i := 1) rfl
      have a0 := ka.out.cell (i := 0) rfl
      have a1 := ka.out.cell (i := 1) rfl
      have b0 := kb.out.cell (i := 0) rfl
      have b1 := kb.out.cell (i := 1) rfl
      go_wp2_with fail
      clear p0 p1 a0 a1 b0 b1
      (((with_reducible refine (E2.out _).mono ?_); rintro e w2 ⟨rfl, hb2⟩); replace HB := Lib.hid (HB.out.trans (hb2.mono HB.out.size)); replace kp := Lib.hid (kp.out.keep hb2); replace ka := Lib.hid (ka.out.keep hb2); replace kb := Lib.hid (kb.out.keep hb2); replace km := Lib.hid (km.out.keep hb2); replace kn := Lib.hid (kn.out.keep hb2); clear hb2)
      go_upto_region 5 with fail
      have hbf := below_new1 w2 (.cells #[.int .i64 u', .int .i64 v'] 23)
      replace kp := Lib.hid (kp.out.keep hbf)
      replace ka := Lib.hid (ka.out.keep hbf)
      replace kb := Lib.hid (kb.out.keep hbf)
      replace km := Lib.hid (km.out.keep hbf)
      replace kn := Lib.hid (kn.out.keep hbf)
      have zf : (w2.alloc (.cells #[.int .i64 u', .int .i64 v'] 23)).heap.size = w2.heap.size + 1 := by simp
      replace HB := Lib.hid (HB.out.trans (hbf.mono HB.out.size))
      have kf := Lib.hid (Lok.new w2 23 #[.int .i64 u', .int .i64 v'])
      clear hbf
      generalize w2.alloc (.cells #[.int .i64 u', .int .i64 v'] 23) = Vf at *
      have hbg := below_new1 Vf (.cells #[.int .i64 n, .int .i64 1] 29)
      replace kp := Lib.hid (kp.out.keep hbg)
      replace ka := Lib.hid (ka.out.keep hbg)
      replace kb := Lib.hid (kb.out.keep hbg)
      replace km := Lib.hid (km.out.keep hbg)
      replace kn := Lib.hid (kn.out.keep hbg)
      replace kf := Lib.hid (kf.out.keep hbg)
      have zg : (Vf.alloc (.cells #[.int .i64 n, .int .i64 1] 29)).heap.size = Vf.heap.size + 1 := by simp
      replace HB := Lib.hid (HB.out.trans (hbg.mono HB.out.size))
      have kg := Lib.hid (Lok.new Vf 29 #[.int .i64 n, .int .i64 1])
      clear hbg
      generalize Vf.alloc (.cells #[.int .i64 n, .int .i64 1] 29) = Vg at *
      rw [zf] at kg
      clear zf zg
      generalize w2.heap.size = gf at *
      have n0 := kn.out.cell (i := 0) rfl
      have n1 := kn.out.cell (i := 1) rfl
      have g0 := kg.out.cell (i := 0) rfl
      have g1 := kg.out.cell (i := 1) rfl
      go_wp2_with fail
      clear n0 n1 g0 g1
      (((with_reducible refine (KS.out _).mono ?_); rintro e w3 ⟨rfl, hb3⟩); replace HB := Lib.hid (HB.out.trans (hb3.mono HB.out.size)); replace kp := Lib.hid (kp.out.keep hb3); replace ka := Lib.hid (ka.out.keep hb3); replace kb := Lib.hid (kb.out.keep hb3); replace km := Lib.hid (km.out.keep hb3); replace kn := Lib.hid (kn.out.keep hb3); clear hb3)
      have n0 := kn.out.cell (i := 0) rfl
      have n1 := kn.out.cell (i := 1) rfl
      go_upto_region 7 with fail
      clear n0 n1
      have qp0 : ∀ D : Of (PastV w3), _ := fun D => (kp.out.keep (show Below w3.heap.size w3 D.world from D.holds)).cell (i := 0) rfl
      have qp1 : ∀ D : Of (PastV w3), _ := fun D => (kp.out.keep (show Below w3.heap.size w3 D.world from D.holds)).cell (i := 1) rfl
      have qa0 : ∀ D : Of (PastV w3), _ := fun D => (ka.out.keep (show Below w3.heap.size w3 D.world from D.holds)).cell (i := 0) rfl
      have qa1 : ∀ D : Of (PastV w3), _ := fun D => (ka.out.keep (show Below w3.heap.size w3 D.world from D.holds)).cell (i := 1) rfl
      have qb0 : ∀ D : Of (PastV w3), _ := fun D => (kb.out.keep (show Below w3.heap.size w3 D.world from D.holds)).cell (i := 0) rfl
      have qb1 : ∀ D : Of (PastV w3), _ := fun D => (kb.out.keep (show Below w3.heap.size w3 D.world from D.holds)).cell (i := 1) rfl
      have qn0 : ∀ D : Of (PastV w3), _ := fun D => (kn.out.keep (show Below w3.heap.size w3 D.world from D.holds)).cell (i := 0) rfl
      have qn1 : ∀ D : Of (PastV w3), _ := fun D => (kn.out.keep (show Below w3.heap.size w3 D.world from D.holds)).cell (i := 1) rfl
      have ST := Lib.hid (pastV_stays w3)
      have ne : Nonempty (Of (PastV w3)) := ⟨⟨w3, Below.refl _ _⟩⟩
      refine wp_region_class (S := PastV w3) (by kernel_rfl) (by kernel_rfl) (Below.refl _ _).drew ?_
      repeat (go_big_quiet_step (first | (go_at_call 20; first | (with_reducible exact class_call ST.out _ (SA.out _)) | (with_reducible exact class_call ST.out _ (SB.out _))) | (go_at_call 19; first | (with_reducible exact class_call ST.out _ (KA.out _)) | (with_reducible exact class_call ST.out _ (KB.out _)))))
      refine wpQuiet_nil ?_
      rintro _ ⟨D, rfl⟩
      have hD : Below w3.heap.size w3 D.world := D.holds
      replace HB := Lib.hid (HB.out.trans (hD.mono HB.out.size))
      replace kp := Lib.hid (kp.out.keep hD)
      replace ka := Lib.hid (ka.out.keep hD)
      replace kb := Lib.hid (kb.out.keep hD)
      replace km := Lib.hid (km.out.keep hD)
      replace kn := Lib.hid (kn.out.keep hD)
      generalize D.world = vd at *
      clear qp0 qp1 qa0 qa1 qb0 qb1 qn0 qn1 ne ST hD
      have m0 := km.out.cell (i := 0) rfl
      have m1 := km.out.cell (i := 1) rfl
      have a0 := ka.out.cell (i := 0) rfl
      have a1 := ka.out.cell (i := 1) rfl
      have b0 := kb.out.cell (i := 0) rfl
      have b1 := kb.out.cell (i := 1) rfl
      go_upto_region 11 with fail
      clear m0 m1 a0 a1 b0 b1
      have qp0 : ∀ D : Of (PastV vd), _ := fun D => (kp.out.keep (show Below vd.heap.size vd D.world from D.holds)).cell (i := 0) rfl
      have qp1 : ∀ D : Of (PastV vd), _ := fun D => (kp.out.keep (show Below vd.heap.size vd D.world from D.holds)).cell (i := 1) rfl
      have qa0 : ∀ D : Of (PastV vd), _ := fun D => (ka.out.keep (show Below vd.heap.size vd D.world from D.holds)).cell (i := 0) rfl
      have qa1 : ∀ D : Of (PastV vd), _ := fun D => (ka.out.keep (show Below vd.heap.size vd D.world from D.holds)).cell (i := 1) rfl
      have qb0 : ∀ D : Of (PastV vd), _ := fun D => (kb.out.keep (show Below vd.heap.size vd D.world from D.holds)).cell (i := 0) rfl
      have qb1 : ∀ D : Of (PastV vd), _ := fun D => (kb.out.keep (show Below vd.heap.size vd D.world from D.holds)).cell (i := 1) rfl
      have qm0 : ∀ D : Of (PastV vd), _ := fun D => (km.out.keep (show Below vd.heap.size vd D.world from D.holds)).cell (i := 0) rfl
      have qm1 : ∀ D : Of (PastV vd), _ := fun D => (km.out.keep (show Below vd.heap.size vd D.world from D.holds)).cell (i := 1) rfl
      have qn0 : ∀ D : Of (PastV vd), _ := fun D => (kn.out.keep (show Below vd.heap.size vd D.world from D.holds)).cell (i := 0) rfl
      have qn1 : ∀ D : Of (PastV vd), _ := fun D => (kn.out.keep (show Below vd.heap.size vd D.world from D.holds)).cell (i := 1) rfl
      have ST := Lib.hid (pastV_stays vd)
      have ne : Nonempty (Of (PastV vd)) := ⟨⟨vd, Below.refl _ _⟩⟩
      refine wp_region_class (S := PastV vd) (by kernel_rfl) (by kernel_rfl) (Below.refl _ _).drew ?_
      repeat (go_big_quiet_step (first | (go_at_call 16; first | (with_reducible exact class_call ST.out _ (ME.out _))) | (go_at_call 20; first | (with_reducible exact class_call ST.out _ (SA.out _)))))
      refine wpQuiet_nil ?_
      rintro _ ⟨D, rfl⟩
      have hD : Below vd.heap.size vd D.world := D.holds
      replace HB := Lib.hid (HB.out.trans (hD.mono HB.out.size))
      replace kp := Lib.hid (kp.out.keep hD)
      replace ka := Lib.hid (ka.out.keep hD)
      replace kb := Lib.hid (kb.out.keep hD)
      replace km := Lib.hid (km.out.keep hD)
      replace kn := Lib.hid (kn.out.keep hD)
      generalize D.world = ve at *
      clear qp0 qp1 qa0 qa1 qb0 qb1 qm0 qm1 qn0 qn1 ne ST hD
      go_wp2
      go_ret
      exact ⟨rfl, HB.out⟩
    · obtain rfl : l = 2 := by
        have : (l == 2) = true := r3'
        exact eq_of_beq this
      clear r3'
      go_enter Try.func5, Try.ntmps5
      go_upto_region 1 with fail
      have hbp := below_new1 w (.cells #[.int .i64 x, .int .i64 y] 23)
      have zp : (w.alloc (.cells #[.int .i64 x, .int .i64 y] 23)).heap.size = w.heap.size + 1 := by simp
      have HB := Lib.hid hbp
      have kp := Lib.hid (Lok.new w 23 #[.int .i64 x, .int .i64 y])
      clear hbp
      generalize w.alloc (.cells #[.int .i64 x, .int .i64 y] 23) = Vp at *
      have hba := below_new1 Vp (.cells #[.int .i64 a1, .int .i64 a2] 23)
      replace kp := Lib.hid (kp.out.keep hba)
      have za : (Vp.alloc (.cells #[.int .i64 a1, .int .i64 a2] 23)).heap.size = Vp.heap.size + 1 := by simp
      replace HB := Lib.hid (HB.out.trans (hba.mono HB.out.size))
      have ka := Lib.hid (Lok.new Vp 23 #[.int .i64 a1, .int .i64 a2])
      clear hba
      generalize Vp.alloc (.cells #[.int .i64 a1, .int .i64 a2] 23) = Va at *
      rw [zp] at ka za
      have hbb := below_new1 Va (.cells #[.int .i64 b1, .int .i64 b2] 23)
      replace kp := Lib.hid (kp.out.keep hbb)
      replace ka := Lib.hid (ka.out.keep hbb)
      have zb : (Va.alloc (.cells #[.int .i64 b1, .int .i64 b2] 23)).heap.size = Va.heap.size + 1 := by simp
      replace HB := Lib.hid (HB.out.trans (hbb.mono HB.out.size))
      have kb := Lib.hid (Lok.new Va 23 #[.int .i64 b1, .int .i64 b2])
      clear hbb
      generalize Va.alloc (.cells #[.int .i64 b1, .int .i64 b2] 23) = Vb at *
      rw [za] at kb
      clear zp za zb
      have p0 := kp.out.cell (i := 0) rfl
      have p1 := kp.out.cell (i := 1) rfl
      have a0 := ka.out.cell (i := 0) rfl
      have a1 := ka.out.cell (i := 1) rfl
      have b0 := kb.out.cell (i := 0) rfl
      have b1 := kb.out.cell (i := 1) rfl
      go_wp2_with fail
      clear p0 p1 a0 a1 b0 b1
      (((with_reducible refine (E1.out _).mono ?_); rintro e w1 ⟨rfl, hb1⟩); replace HB := Lib.hid (HB.out.trans (hb1.mono HB.out.size)); replace kp := Lib.hid (kp.out.keep hb1); replace ka := Lib.hid (ka.out.keep hb1); replace kb := Lib.hid (kb.out.keep hb1); clear hb1)
      go_upto_region 2 with fail
      have hbm := below_new1 w1 (.cells #[.int .i64 u, .int .i64 v] 23)
      replace kp := Lib.hid (kp.out.keep hbm)
      replace ka := Lib.hid (ka.out.keep hbm)
      replace kb := Lib.hid (kb.out.keep hbm)
      have zm : (w1.alloc (.cells #[.int .i64 u, .int .i64 v] 23)).heap.size = w1.heap.size + 1 := by simp
      replace HB := Lib.hid (HB.out.trans (hbm.mono HB.out.size))
      have km := Lib.hid (Lok.new w1 23 #[.int .i64 u, .int .i64 v])
      clear hbm
      generalize w1.alloc (.cells #[.int .i64 u, .int .i64 v] 23) = Vm at *
      have hbn := below_new1 Vm (.cells #[.int .i64 n, .int .i64 d] 29)
      replace kp := Lib.hid (kp.out.keep hbn)
      replace ka := Lib.hid (ka.out.keep hbn)
      replace kb := Lib.hid (kb.out.keep hbn)
      replace km := Lib.hid (km.out.keep hbn)
      have zn : (Vm.alloc (.cells #[.int .i64 n, .int .i64 d] 29)).heap.size = Vm.heap.size + 1 := by simp
      replace HB := Lib.hid (HB.out.trans (hbn.mono HB.out.size))
      have kn := Lib.hid (Lok.new Vm 29 #[.int .i64 n, .int .i64 d])
      clear hbn
      generalize Vm.alloc (.cells #[.int .i64 n, .int .i64 d] 29) = Vn at *
      rw [zm] at kn
      clear zm zn
      generalize w1.heap.size = gm at *
      have p0 := kp.out.cell (i := 0) rfl
      have p1 := kp.out.cell (i := 1) rfl
      have a0 := ka.out.cell (i := 0) rfl
      have a1 := ka.out.cell (i := 1) rfl
      have b0 := kb.out.cell (i := 0) rfl
      have b1 := kb.out.cell (i := 1) rfl
      go_wp2_with fail
      clear p0 p1 a0 a1 b0 b1
      (((with_reducible refine (E2.out _).mono ?_); rintro e w2 ⟨rfl, hb2⟩); replace HB := Lib.hid (HB.out.trans (hb2.mono HB.out.size)); replace kp := Lib.hid (kp.out.keep hb2); replace ka := Lib.hid (ka.out.keep hb2); replace kb := Lib.hid (kb.out.keep hb2); replace km := Lib.hid (km.out.keep hb2); replace kn := Lib.hid (kn.out.keep hb2); clear hb2)
      go_upto_region 5 with fail
      have hbf := below_new1 w2 (.cells #[.int .i64 u', .int .i64 v'] 23)
      replace kp := Lib.hid (kp.out.keep hbf)
      replace ka := Lib.hid (ka.out.keep hbf)
      replace kb := Lib.hid (kb.out.keep hbf)
      replace km := Lib.hid (km.out.keep hbf)
      replace kn := Lib.hid (kn.out.keep hbf)
      have zf : (w2.alloc (.cells #[.int .i64 u', .int .i64 v'] 23)).heap.size = w2.heap.size + 1 := by simp
      replace HB := Lib.hid (HB.out.trans (hbf.mono HB.out.size))
      have kf := Lib.hid (Lok.new w2 23 #[.int .i64 u', .int .i64 v'])
      clear hbf
      generalize w2.alloc (.cells #[.int .i64 u', .int .i64 v'] 23) = Vf at *
      have hbg := below_new1 Vf (.cells #[.int .i64 n, .int .i64 d] 29)
      replace kp := Lib.hid (kp.out.keep hbg)
      replace ka := Lib.hid (ka.out.keep hbg)
      replace kb := Lib.hid (kb.out.keep hbg)
      replace km := Lib.hid (km.out.keep hbg)
      replace kn := Lib.hid (kn.out.keep hbg)
      replace kf := Lib.hid (kf.out.keep hbg)
      have zg : (Vf.alloc (.cells #[.int .i64 n, .int .i64 d] 29)).heap.size = Vf.heap.size + 1 := by simp
      replace HB := Lib.hid (HB.out.trans (hbg.mono HB.out.size))
      have kg := Lib.hid (Lok.new Vf 29 #[.int .i64 n, .int .i64 d])
      clear hbg
      generalize Vf.alloc (.cells #[.int .i64 n, .int .i64 d] 29) = Vg at *
      rw [zf] at kg
      clear zf zg
      generalize w2.heap.size = gf at *
      have n0 := kn.out.cell (i := 0) rfl
      have n1 := kn.out.cell (i := 1) rfl
      have g0 := kg.out.cell (i := 0) rfl
      have g1 := kg.out.cell (i := 1) rfl
      go_wp2_with fail
      clear n0 n1 g0 g1
      (((with_reducible refine (KS.out _).mono ?_); rintro e w3 ⟨rfl, hb3⟩); replace HB := Lib.hid (HB.out.trans (hb3.mono HB.out.size)); replace kp := Lib.hid (kp.out.keep hb3); replace ka := Lib.hid (ka.out.keep hb3); replace kb := Lib.hid (kb.out.keep hb3); replace km := Lib.hid (km.out.keep hb3); replace kn := Lib.hid (kn.out.keep hb3); clear hb3)
      have n0 := kn.out.cell (i := 0) rfl
      have n1 := kn.out.cell (i := 1) rfl
      go_upto_region 7 with fail
      clear n0 n1
      have qp0 : ∀ D : Of (PastV w3), _ := fun D => (kp.out.keep (show Below w3.heap.size w3 D.world from D.holds)).cell (i := 0) rfl
      have qp1 : ∀ D : Of (PastV w3), _ := fun D => (kp.out.keep (show Below w3.heap.size w3 D.world from D.holds)).cell (i := 1) rfl
      have qa0 : ∀ D : Of (PastV w3), _ := fun D => (ka.out.keep (show Below w3.heap.size w3 D.world from D.holds)).cell (i := 0) rfl
      have qa1 : ∀ D : Of (PastV w3), _ := fun D => (ka.out.keep (show Below w3.heap.size w3 D.world from D.holds)).cell (i := 1) rfl
      have qb0 : ∀ D : Of (PastV w3), _ := fun D => (kb.out.keep (show Below w3.heap.size w3 D.world from D.holds)).cell (i := 0) rfl
      have qb1 : ∀ D : Of (PastV w3), _ := fun D => (kb.out.keep (show Below w3.heap.size w3 D.world from D.holds)).cell (i := 1) rfl
      have qn0 : ∀ D : Of (PastV w3), _ := fun D => (kn.out.keep (show Below w3.heap.size w3 D.world from D.holds)).cell (i := 0) rfl
      have qn1 : ∀ D : Of (PastV w3), _ := fun D => (kn.out.keep (show Below w3.heap.size w3 D.world from D.holds)).cell (i := 1) rfl
      have ST := Lib.hid (pastV_stays w3)
      have ne : Nonempty (Of (PastV w3)) := ⟨⟨w3, Below.refl _ _⟩⟩
      refine wp_region_class (S := PastV w3) (by kernel_rfl) (by kernel_rfl) (Below.refl _ _).drew ?_
      repeat (go_big_quiet_step (first | (go_at_call 20; first | (with_reducible exact class_call ST.out _ (SA.out _)) | (with_reducible exact class_call ST.out _ (SB.out _))) | (go_at_call 19; first | (with_reducible exact class_call ST.out _ (KA.out _)) | (with_reducible exact class_call ST.out _ (KB.out _)))))
      refine wpQuiet_nil ?_
      rintro _ ⟨D, rfl⟩
      have hD : Below w3.heap.size w3 D.world := D.holds
      replace HB := Lib.hid (HB.out.trans (hD.mono HB.out.size))
      replace kp := Lib.hid (kp.out.keep hD)
      replace ka := Lib.hid (ka.out.keep hD)
      replace kb := Lib.hid (kb.out.keep hD)
      replace km := Lib.hid (km.out.keep hD)
      replace kn := Lib.hid (kn.out.keep hD)
      generalize D.world = vd at *
      clear qp0 qp1 qa0 qa1 qb0 qb1 qn0 qn1 ne ST hD
      have m0 := km.out.cell (i := 0) rfl
      have m1 := km.out.cell (i := 1) rfl
      have a0 := ka.out.cell (i := 0) rfl
      have a1 := ka.out.cell (i := 1) rfl
      have b0 := kb.out.cell (i := 0) rfl
      have b1 := kb.out.cell (i := 1) rfl
      go_upto_region 11 with fail
      clear m0 m1 a0 a1 b0 b1
      have qp0 : ∀ D : Of (PastV vd), _ := fun D => (kp.out.keep (show Below vd.heap.size vd D.world from D.holds)).cell (i := 0) rfl
      have qp1 : ∀ D : Of (PastV vd), _ := fun D => (kp.out.keep (show Below vd.heap.size vd D.world from D.holds)).cell (i := 1) rfl
      have qa0 : ∀ D : Of (PastV vd), _ := fun D => (ka.out.keep (show Below vd.heap.size vd D.world from D.holds)).cell (i := 0) rfl
      have qa1 : ∀ D : Of (PastV vd), _ := fun D => (ka.out.keep (show Below vd.heap.size vd D.world from D.holds)).cell (i := 1) rfl
      have qb0 : ∀ D : Of (PastV vd), _ := fun D => (kb.out.keep (show Below vd.heap.size vd D.world from D.holds)).cell (i := 0) rfl
      have qb1 : ∀ D : Of (PastV vd), _ := fun D => (kb.out.keep (show Below vd.heap.size vd D.world from D.holds)).cell (i := 1) rfl
      have qm0 : ∀ D : Of (PastV vd), _ := fun D => (km.out.keep (show Below vd.heap.size vd D.world from D.holds)).cell (i := 0) rfl
      have qm1 : ∀ D : Of (PastV vd), _ := fun D => (km.out.keep (show Below vd.heap.size vd D.world from D.holds)).cell (i := 1) rfl
      have qn0 : ∀ D : Of (PastV vd), _ := fun D => (kn.out.keep (show Below vd.heap.size vd D.world from D.holds)).cell (i := 0) rfl
      have qn1 : ∀ D : Of (PastV vd), _ := fun D => (kn.out.keep (show Below vd.heap.size vd D.world from D.holds)).cell (i := 1) rfl
      have ST := Lib.hid (pastV_stays vd)
      have ne : Nonempty (Of (PastV vd)) := ⟨⟨vd, Below.refl _ _⟩⟩
      refine wp_region_class (S := PastV vd) (by kernel_rfl) (by kernel_rfl) (Below.refl _ _).drew ?_
      repeat (go_big_quiet_step (first | (go_at_call 16; first | (with_reducible exact class_call ST.out _ (ME.out _))) | (go_at_call 20; first | (with_reducible exact class_call ST.out _ (SA.out _)))))
      refine wpQuiet_nil ?_
      rintro _ ⟨D, rfl⟩
      have hD : Below vd.heap.size vd D.world := D.holds
      replace HB := Lib.hid (HB.out.trans (hD.mono HB.out.size))
      replace kp := Lib.hid (kp.out.keep hD)
      replace ka := Lib.hid (ka.out.keep hD)
      replace kb := Lib.hid (kb.out.keep hD)
      replace km := Lib.hid (km.out.keep hD)
      replace kn := Lib.hid (kn.out.keep hD)
      generalize D.world = ve at *
      clear qp0 qp1 qa0 qa1 qb0 qb1 qm0 qm1 qn0 qn1 ne ST hD
      go_wp2
      go_ret
      exact ⟨rfl, HB.out⟩
end Go.Proofs.Ytllamakemgogaaa
