import Derived.Test.YtcnbbanpnoigdaaGreatHs
namespace Go.Proofs.YtcnbbanpnoigdaaGreat
open Go.RowKit

set_option maxRecDepth 100000 in
set_option maxHeartbeats 4000000 in
theorem l15three_any (a b c : Int) (w : World) :
  Calls Tryz.prog 47 #[.int .i64 a, .int .i64 b, .int .i64 c] w fun e w' => e = .returned (.agg #[.int .i64 a, .int .i64 (-1), .int .i64 (-1), .int .i64 b, .int .i64 (-1), .int .i64 (-1), .int .i64 c, .int .i64 (-1), .int .i64 (-1)]) ∧ Below w.heap.size w w' := by
 have HB := Lib.hid (Below.refl w.heap.size w)
 go_enter Tryz.func47, Tryz.ntmps47
 go_wp2_with fail
 exact bodyPost_ret (v := .agg #[.int .i64 a, .int .i64 (-1), .int .i64 (-1), .int .i64 b, .int .i64 (-1), .int .i64 (-1), .int .i64 c, .int .i64 (-1), .int .i64 (-1)]) (by simp [results, Tryz.results47, go_sem]) rfl ⟨rfl, by (repeat (first | exact Below.refl _ _ | assumption | refine Below.drew ?_ | refine below_drewN ?_ _ | refine Below.setCell ?_ (by first | omega | (simp; done) | (simp; omega)) _ | refine Below.alloc ?_ (by first | omega | (simp; done) | (simp; omega)) _))⟩
def mz0 : Nat → Nat → Int := fun _ _ => 0
def cmaV : Nat → Nat → Int := fun i j => ([0, 0, 0, 9, 0, 0, 9, 9, 0, 0, 9, 0, 9, 0, 9] : List Int).getD (i * 3 + j) 0
def cmaC : Nat → Nat → Int := fun i j => ([0, -1, -1, 1, -1, -1, 2, -1, -1, 0, -1, -1, 2, -1, -1, 3, -1, -1] : List Int).getD (i * 9 + j) 0
theorem cma_ok : tmB 5 0 0 2 cmaV mz0 mz0 cmaC = true := by decide +kernel
theorem cma_rows {W : World} {g h : Nat} (k : Lok W g 57 #[.int .i64 0, .int .i64 0, .int .i64 0, .int .i64 9, .int .i64 0, .int .i64 0, .int .i64 9, .int .i64 9, .int .i64 0, .int .i64 0, .int .i64 9, .int .i64 0, .int .i64 9, .int .i64 0, .int .i64 9]) (l : Lok W h 88 #[.int .i64 0, .int .i64 (-1), .int .i64 (-1), .int .i64 1, .int .i64 (-1), .int .i64 (-1), .int .i64 2, .int .i64 (-1), .int .i64 (-1), .int .i64 0, .int .i64 (-1), .int .i64 (-1), .int .i64 2, .int .i64 (-1), .int .i64 (-1), .int .i64 3, .int .i64 (-1), .int .i64 (-1)]) : MsW W (some ⟨g, 0, none⟩) none none (some ⟨h, 0, none⟩) 5 0 0 2 cmaV mz0 mz0 cmaC := by
 refine ⟨⟨.inr ⟨g, 0, rfl, k.lt, fun i hi j hj => ?_⟩, .inl rfl, .inl rfl, .inr ⟨h, 0, rfl, l.lt, fun i hi j hj => ?_⟩⟩, by omega, by omega, by omega, by omega⟩
 ·rw [Nat.zero_add]
  refine k.cell (i := i * 3 + j) ?_
  rcases (show i = 0 ∨ i = 1 ∨ i = 2 ∨ i = 3 ∨ i = 4 by omega) with rfl | rfl | rfl | rfl | rfl <;> rcases (show j = 0 ∨ j = 1 ∨ j = 2 by omega) with rfl | rfl | rfl <;> rfl
 ·rw [Nat.zero_add]
  refine l.cell (i := i * 9 + j) ?_
  rcases (show i = 0 ∨ i = 1 by omega) with rfl | rfl <;> rcases (show j = 0 ∨ j = 1 ∨ j = 2 ∨ j = 3 ∨ j = 4 ∨ j = 5 ∨ j = 6 ∨ j = 7 ∨ j = 8 by omega) with rfl | rfl | rfl | rfl | rfl | rfl | rfl | rfl | rfl <;> rfl
def cmbV : Nat → Nat → Int := fun i j => ([0, 0, 0, 9, 0, 0, 9, 9, 0, 0, 0, 9] : List Int).getD (i * 3 + j) 0
def cmbC : Nat → Nat → Int := fun i j => ([0, -1, -1, 1, -1, -1, 2, -1, -1, 0, -1, -1, 1, -1, -1, 3, -1, -1] : List Int).getD (i * 9 + j) 0
theorem cmb_ok : tmB 4 0 0 2 cmbV mz0 mz0 cmbC = true := by decide +kernel
theorem cmb_rows {W : World} {g h : Nat} (k : Lok W g 57 #[.int .i64 0, .int .i64 0, .int .i64 0, .int .i64 9, .int .i64 0, .int .i64 0, .int .i64 9, .int .i64 9, .int .i64 0, .int .i64 0, .int .i64 0, .int .i64 9]) (l : Lok W h 88 #[.int .i64 0, .int .i64 (-1), .int .i64 (-1), .int .i64 1, .int .i64 (-1), .int .i64 (-1), .int .i64 2, .int .i64 (-1), .int .i64 (-1), .int .i64 0, .int .i64 (-1), .int .i64 (-1), .int .i64 1, .int .i64 (-1), .int .i64 (-1), .int .i64 3, .int .i64 (-1), .int .i64 (-1)]) : MsW W (some ⟨g, 0, none⟩) none none (some ⟨h, 0, none⟩) 4 0 0 2 cmbV mz0 mz0 cmbC := by
 refine ⟨⟨.inr ⟨g, 0, rfl, k.lt, fun i hi j hj => ?_⟩, .inl rfl, .inl rfl, .inr ⟨h, 0, rfl, l.lt, fun i hi j hj => ?_⟩⟩, by omega, by omega, by omega, by omega⟩
 ·rw [Nat.zero_add]
  refine k.cell (i := i * 3 + j) ?_
  rcases (show i = 0 ∨ i = 1 ∨ i = 2 ∨ i = 3 by omega) with rfl | rfl | rfl | rfl <;> rcases (show j = 0 ∨ j = 1 ∨ j = 2 by omega) with rfl | rfl | rfl <;> rfl
 ·rw [Nat.zero_add]
  refine l.cell (i := i * 9 + j) ?_
  rcases (show i = 0 ∨ i = 1 by omega) with rfl | rfl <;> rcases (show j = 0 ∨ j = 1 ∨ j = 2 ∨ j = 3 ∨ j = 4 ∨ j = 5 ∨ j = 6 ∨ j = 7 ∨ j = 8 by omega) with rfl | rfl | rfl | rfl | rfl | rfl | rfl | rfl | rfl <;> rfl
def cmcV : Nat → Nat → Int := fun i j => ([4097, 0, 0] : List Int).getD (i * 3 + j) 0
theorem cmc_ok : tmB 1 0 0 0 cmcV mz0 mz0 mz0 = false := by decide +kernel
theorem cmc_rows {W : World} {g : Nat} (k : Lok W g 57 #[.int .i64 4097, .int .i64 0, .int .i64 0]) : MsW W (some ⟨g, 0, none⟩) none none none 1 0 0 0 cmcV mz0 mz0 mz0 := by
 refine ⟨⟨.inr ⟨g, 0, rfl, k.lt, fun i hi j hj => ?_⟩, .inl rfl, .inl rfl, .inl rfl⟩, by omega, by omega, by omega, by omega⟩
 rw [Nat.zero_add]
 refine k.cell (i := i * 3 + j) ?_
 obtain rfl : i = 0 := by omega
 rcases (show j = 0 ∨ j = 1 ∨ j = 2 by omega) with rfl | rfl | rfl <;> rfl
theorem cma_grow : chA true 2 cmaV cmaC = [(2, 1, [0, 1])] := by decide +kernel
theorem cmb_grow : (chA true 2 cmbV cmbC).length = 2 := by decide +kernel
theorem cma_face : (chF true 2 cmaV cmaC).A 0 = 2 ∧ (chF true 2 cmaV cmaC).S 0 = 1 ∧ (chF true 2 cmaV cmaC).K 0 = true := by decide +kernel
theorem cma_sh : shT true 2 1 2 = true := by decide +kernel
theorem cma_shX : shX cmaV cmaC 2 1 0 = 0 ∧ shX cmaV cmaC 2 1 1 = 9 ∧ shX cmaV cmaC 2 1 2 = 0 := by decide +kernel
theorem cma_shY : shY cmaV cmaC 2 1 0 = 0 ∧ shY cmaV cmaC 2 1 1 = 9 ∧ shY cmaV cmaC 2 1 2 = 9 := by decide +kernel
theorem cma_right : (chF true 2 cmaV cmaC).rightB [(2, 1, [0, 1])] = true := by decide +kernel
theorem cma_not : (chF true 2 cmaV cmaC).rightB [] = false := by decide +kernel
set_option maxRecDepth 100000 in
set_option maxHeartbeats 16000000 in
theorem charted_any (w : World) : Calls Tryz.prog 19 #[] w fun e w' => e = .returned (.bool true) ∧ Below w.heap.size w w' := by
 have E := chart_ok;have HB := Lib.hid (Below.refl w.heap.size w)
 go_enter Tryz.func19, Tryz.ntmps19
 go_wp2_with fail
 have hba := below_new1 w (.cells #[.int .i64 0, .int .i64 0, .int .i64 0, .int .i64 9, .int .i64 0, .int .i64 0, .int .i64 9, .int .i64 9, .int .i64 0, .int .i64 0, .int .i64 9, .int .i64 0, .int .i64 9, .int .i64 0, .int .i64 9] 57)
 have za : (w.alloc (.cells #[.int .i64 0, .int .i64 0, .int .i64 0, .int .i64 9, .int .i64 0, .int .i64 0, .int .i64 9, .int .i64 9, .int .i64 0, .int .i64 0, .int .i64 9, .int .i64 0, .int .i64 9, .int .i64 0, .int .i64 9] 57)).heap.size = w.heap.size + 1 := by simp
 have HB := Lib.hid hba;have ka := Lib.hid (Lok.new w 57 #[.int .i64 0, .int .i64 0, .int .i64 0, .int .i64 9, .int .i64 0, .int .i64 0, .int .i64 9, .int .i64 9, .int .i64 0, .int .i64 0, .int .i64 9, .int .i64 0, .int .i64 9, .int .i64 0, .int .i64 9]);clear hba;generalize w.alloc (.cells #[.int .i64 0, .int .i64 0, .int .i64 0, .int .i64 9, .int .i64 0, .int .i64 0, .int .i64 9, .int .i64 9, .int .i64 0, .int .i64 0, .int .i64 9, .int .i64 0, .int .i64 9, .int .i64 0, .int .i64 9] 57) = Va at *;clear za
 (((with_reducible refine (l15three_any 0 1 2 _).mono ?_); rintro e w1 ⟨rfl, hb1⟩); replace HB := Lib.hid (HB.out.trans (hb1.mono HB.out.size)); replace ka := Lib.hid (ka.out.keep hb1); clear hb1)
 go_wp2_with fail
 (((with_reducible refine (l15three_any 0 2 3 _).mono ?_); rintro e w2 ⟨rfl, hb2⟩); replace HB := Lib.hid (HB.out.trans (hb2.mono HB.out.size)); replace ka := Lib.hid (ka.out.keep hb2); clear hb2)
 go_upto_region 2 with fail
 have hbt := below_new1 w2 (.cells #[.int .i64 0, .int .i64 (-1), .int .i64 (-1), .int .i64 1, .int .i64 (-1), .int .i64 (-1), .int .i64 2, .int .i64 (-1), .int .i64 (-1), .int .i64 0, .int .i64 (-1), .int .i64 (-1), .int .i64 2, .int .i64 (-1), .int .i64 (-1), .int .i64 3, .int .i64 (-1), .int .i64 (-1)] 88);replace ka := Lib.hid (ka.out.keep hbt)
 have zt : (w2.alloc (.cells #[.int .i64 0, .int .i64 (-1), .int .i64 (-1), .int .i64 1, .int .i64 (-1), .int .i64 (-1), .int .i64 2, .int .i64 (-1), .int .i64 (-1), .int .i64 0, .int .i64 (-1), .int .i64 (-1), .int .i64 2, .int .i64 (-1), .int .i64 (-1), .int .i64 3, .int .i64 (-1), .int .i64 (-1)] 88)).heap.size = w2.heap.size + 1 := by simp
 replace HB := Lib.hid (HB.out.trans (hbt.mono HB.out.size));have kt := Lib.hid (Lok.new w2 88 #[.int .i64 0, .int .i64 (-1), .int .i64 (-1), .int .i64 1, .int .i64 (-1), .int .i64 (-1), .int .i64 2, .int .i64 (-1), .int .i64 (-1), .int .i64 0, .int .i64 (-1), .int .i64 (-1), .int .i64 2, .int .i64 (-1), .int .i64 (-1), .int .i64 3, .int .i64 (-1), .int .i64 (-1)]);clear hbt;generalize w2.alloc (.cells #[.int .i64 0, .int .i64 (-1), .int .i64 (-1), .int .i64 1, .int .i64 (-1), .int .i64 (-1), .int .i64 2, .int .i64 (-1), .int .i64 (-1), .int .i64 0, .int .i64 (-1), .int .i64 (-1), .int .i64 2, .int .i64 (-1), .int .i64 (-1), .int .i64 3, .int .i64 (-1), .int .i64 (-1)] 88) = Vt at *;have hbm := below_new1 Vt (.cells #[.slice (some ⟨w.heap.size, 0, none⟩) 5 5, .slice none 0 0, .slice none 0 0, .slice (some ⟨w2.heap.size, 0, none⟩) 2 2] 26);replace ka := Lib.hid (ka.out.keep hbm);replace kt := Lib.hid (kt.out.keep hbm)
 have zm : (Vt.alloc (.cells #[.slice (some ⟨w.heap.size, 0, none⟩) 5 5, .slice none 0 0, .slice none 0 0, .slice (some ⟨w2.heap.size, 0, none⟩) 2 2] 26)).heap.size = Vt.heap.size + 1 := by simp
 replace HB := Lib.hid (HB.out.trans (hbm.mono HB.out.size));have km := Lib.hid (Lok.new Vt 26 #[.slice (some ⟨w.heap.size, 0, none⟩) 5 5, .slice none 0 0, .slice none 0 0, .slice (some ⟨w2.heap.size, 0, none⟩) 2 2]);clear hbm;generalize Vt.alloc (.cells #[.slice (some ⟨w.heap.size, 0, none⟩) 5 5, .slice none 0 0, .slice none 0 0, .slice (some ⟨w2.heap.size, 0, none⟩) 2 2] 26) = Vm at *;rw [zt] at km;clear zt zm;have M := Lib.hid (cma_rows ka.out kt.out);clear ka kt;have m0 := km.out.cell (i := 0) rfl;have m1 := km.out.cell (i := 1) rfl;have m2 := km.out.cell (i := 2) rfl;have m3 := km.out.cell (i := 3) rfl
 go_wp2_with fail
 clear m0 m1 m2 m3;have GR := E.grow (some ⟨w.heap.size, 0, none⟩) none none (some ⟨w2.heap.size, 0, none⟩) 5 0 0 2 5 0 0 2 cmaV mz0 mz0 cmaC _ M.out (by omega) (by omega);rw [cma_ok, show agE true = 0 from rfl, cma_grow] at GR;((with_reducible refine GR.mono ?_); rintro e w3 ⟨⟨v3, Z3, rfl, O3, HZ3⟩, hb3⟩);clear GR;obtain ⟨a3, c3, rfl, -, lc3, mc3, R3⟩ := rowC_of_own O3
 have l3 : Z3.length = 1 := by
  have := congrArg List.length HZ3
  rwa [List.length_map] at this
 rw [HZ3] at R3;rw [l3] at R3 ⊢;clear O3 HZ3 l3 lc3 mc3;replace R3 := Lib.hid R3;replace HB := Lib.hid (HB.out.trans (hb3.mono HB.out.size));replace km := Lib.hid (km.out.keep hb3);replace M := Lib.hid (M.out.keep hb3);clear hb3
 go_wp2_with fail
 have hbb := below_new1 w3 (.cells #[.int .i64 0, .int .i64 0, .int .i64 0, .int .i64 9, .int .i64 0, .int .i64 0, .int .i64 9, .int .i64 9, .int .i64 0, .int .i64 0, .int .i64 0, .int .i64 9] 57);replace km := Lib.hid (km.out.keep hbb);replace M := Lib.hid (M.out.keep hbb);replace R3 := Lib.hid (R3.out.keep hbb)
 have zb : (w3.alloc (.cells #[.int .i64 0, .int .i64 0, .int .i64 0, .int .i64 9, .int .i64 0, .int .i64 0, .int .i64 9, .int .i64 9, .int .i64 0, .int .i64 0, .int .i64 0, .int .i64 9] 57)).heap.size = w3.heap.size + 1 := by simp
 replace HB := Lib.hid (HB.out.trans (hbb.mono HB.out.size));have kb := Lib.hid (Lok.new w3 57 #[.int .i64 0, .int .i64 0, .int .i64 0, .int .i64 9, .int .i64 0, .int .i64 0, .int .i64 9, .int .i64 9, .int .i64 0, .int .i64 0, .int .i64 0, .int .i64 9]);clear hbb;generalize w3.alloc (.cells #[.int .i64 0, .int .i64 0, .int .i64 0, .int .i64 9, .int .i64 0, .int .i64 0, .int .i64 9, .int .i64 9, .int .i64 0, .int .i64 0, .int .i64 0, .int .i64 9] 57) = Vb at *;clear zb
 (((with_reducible refine (l15three_any 0 1 2 _).mono ?_); rintro e w4 ⟨rfl, hb4⟩); replace HB := Lib.hid (HB.out.trans (hb4.mono HB.out.size)); replace kb := Lib.hid (kb.out.keep hb4); replace km := Lib.hid (km.out.keep hb4); replace M := Lib.hid (M.out.keep hb4); replace R3 := Lib.hid (R3.out.keep hb4); clear hb4)
 go_wp2_with fail
 (((with_reducible refine (l15three_any 0 1 3 _).mono ?_); rintro e w5 ⟨rfl, hb5⟩); replace HB := Lib.hid (HB.out.trans (hb5.mono HB.out.size)); replace kb := Lib.hid (kb.out.keep hb5); replace km := Lib.hid (km.out.keep hb5); replace M := Lib.hid (M.out.keep hb5); replace R3 := Lib.hid (R3.out.keep hb5); clear hb5)
 go_upto_region 4 with fail
 have hbs := below_new1 w5 (.cells #[.int .i64 0, .int .i64 (-1), .int .i64 (-1), .int .i64 1, .int .i64 (-1), .int .i64 (-1), .int .i64 2, .int .i64 (-1), .int .i64 (-1), .int .i64 0, .int .i64 (-1), .int .i64 (-1), .int .i64 1, .int .i64 (-1), .int .i64 (-1), .int .i64 3, .int .i64 (-1), .int .i64 (-1)] 88);replace kb := Lib.hid (kb.out.keep hbs);replace km := Lib.hid (km.out.keep hbs);replace M := Lib.hid (M.out.keep hbs);replace R3 := Lib.hid (R3.out.keep hbs)
 have zs : (w5.alloc (.cells #[.int .i64 0, .int .i64 (-1), .int .i64 (-1), .int .i64 1, .int .i64 (-1), .int .i64 (-1), .int .i64 2, .int .i64 (-1), .int .i64 (-1), .int .i64 0, .int .i64 (-1), .int .i64 (-1), .int .i64 1, .int .i64 (-1), .int .i64 (-1), .int .i64 3, .int .i64 (-1), .int .i64 (-1)] 88)).heap.size = w5.heap.size + 1 := by simp
 replace HB := Lib.hid (HB.out.trans (hbs.mono HB.out.size));have ks := Lib.hid (Lok.new w5 88 #[.int .i64 0, .int .i64 (-1), .int .i64 (-1), .int .i64 1, .int .i64 (-1), .int .i64 (-1), .int .i64 2, .int .i64 (-1), .int .i64 (-1), .int .i64 0, .int .i64 (-1), .int .i64 (-1), .int .i64 1, .int .i64 (-1), .int .i64 (-1), .int .i64 3, .int .i64 (-1), .int .i64 (-1)]);clear hbs;generalize w5.alloc (.cells #[.int .i64 0, .int .i64 (-1), .int .i64 (-1), .int .i64 1, .int .i64 (-1), .int .i64 (-1), .int .i64 2, .int .i64 (-1), .int .i64 (-1), .int .i64 0, .int .i64 (-1), .int .i64 (-1), .int .i64 1, .int .i64 (-1), .int .i64 (-1), .int .i64 3, .int .i64 (-1), .int .i64 (-1)] 88) = Vs at *;have hbn := below_new1 Vs (.cells #[.slice (some ⟨w3.heap.size, 0, none⟩) 4 4, .slice none 0 0, .slice none 0 0, .slice (some ⟨w5.heap.size, 0, none⟩) 2 2] 26);replace kb := Lib.hid (kb.out.keep hbn);replace ks := Lib.hid (ks.out.keep hbn);replace km := Lib.hid (km.out.keep hbn);replace M := Lib.hid (M.out.keep hbn);replace R3 := Lib.hid (R3.out.keep hbn)
 have zn : (Vs.alloc (.cells #[.slice (some ⟨w3.heap.size, 0, none⟩) 4 4, .slice none 0 0, .slice none 0 0, .slice (some ⟨w5.heap.size, 0, none⟩) 2 2] 26)).heap.size = Vs.heap.size + 1 := by simp
 replace HB := Lib.hid (HB.out.trans (hbn.mono HB.out.size));have kn := Lib.hid (Lok.new Vs 26 #[.slice (some ⟨w3.heap.size, 0, none⟩) 4 4, .slice none 0 0, .slice none 0 0, .slice (some ⟨w5.heap.size, 0, none⟩) 2 2]);clear hbn;generalize Vs.alloc (.cells #[.slice (some ⟨w3.heap.size, 0, none⟩) 4 4, .slice none 0 0, .slice none 0 0, .slice (some ⟨w5.heap.size, 0, none⟩) 2 2] 26) = Vn at *;rw [zs] at kn;clear zs zn;have N := Lib.hid (cmb_rows kb.out ks.out);clear kb ks;have m0 := kn.out.cell (i := 0) rfl;have m1 := kn.out.cell (i := 1) rfl;have m2 := kn.out.cell (i := 2) rfl;have m3 := kn.out.cell (i := 3) rfl
 go_wp2_with fail
 clear m0 m1 m2 m3;have GR := E.grow (some ⟨w3.heap.size, 0, none⟩) none none (some ⟨w5.heap.size, 0, none⟩) 4 0 0 2 4 0 0 2 cmbV mz0 mz0 cmbC _ N.out (by omega) (by omega);rw [cmb_ok, show agE true = 0 from rfl] at GR;((with_reducible refine GR.mono ?_); rintro e w6 ⟨⟨v6, Z6, rfl, O6, HZ6⟩, hb6⟩);clear GR kn N;obtain ⟨a6, c6, rfl, -, lc6, mc6, R6⟩ := rowC_of_own O6
 have l6 : Z6.length = 2 := by
  have := congrArg List.length HZ6;rw [List.length_map] at this
  exact this.trans cmb_grow
 rw [l6];clear O6 HZ6 l6 lc6 mc6 R6;replace HB := Lib.hid (HB.out.trans (hb6.mono HB.out.size));replace km := Lib.hid (km.out.keep hb6);replace M := Lib.hid (M.out.keep hb6);replace R3 := Lib.hid (R3.out.keep hb6);clear hb6;have m0 := km.out.cell (i := 0) rfl;have m1 := km.out.cell (i := 1) rfl;have m2 := km.out.cell (i := 2) rfl;have m3 := km.out.cell (i := 3) rfl
 go_wp2_with fail
 clear m0 m1 m2 m3;have FA := E.facing (some ⟨w.heap.size, 0, none⟩) none none (some ⟨w2.heap.size, 0, none⟩) 5 0 0 2 5 0 0 2 cmaV mz0 mz0 cmaC 0 _ M.out (by omega) (by omega);rw [cma_ok, cma_face.1, cma_face.2.1, cma_face.2.2] at FA
 (((with_reducible refine (FA).mono ?_); rintro e w7 ⟨rfl, hb7⟩); replace HB := Lib.hid (HB.out.trans (hb7.mono HB.out.size)); replace km := Lib.hid (km.out.keep hb7); replace M := Lib.hid (M.out.keep hb7); replace R3 := Lib.hid (R3.out.keep hb7); clear hb7)
 clear FA
 go_wp2_with fail
 have hbc := below_new1 w7 (.cells #[.int .i64 4097, .int .i64 0, .int .i64 0] 57);replace km := Lib.hid (km.out.keep hbc);replace M := Lib.hid (M.out.keep hbc);replace R3 := Lib.hid (R3.out.keep hbc)
 have zc : (w7.alloc (.cells #[.int .i64 4097, .int .i64 0, .int .i64 0] 57)).heap.size = w7.heap.size + 1 := by simp
 replace HB := Lib.hid (HB.out.trans (hbc.mono HB.out.size));have kc := Lib.hid (Lok.new w7 57 #[.int .i64 4097, .int .i64 0, .int .i64 0]);clear hbc;generalize w7.alloc (.cells #[.int .i64 4097, .int .i64 0, .int .i64 0] 57) = Vc at *;clear zc;have GR := E.grow (some ⟨w7.heap.size, 0, none⟩) none none none 1 0 0 0 1 0 0 0 cmcV mz0 mz0 mz0 _ (cmc_rows kc.out) (by omega) (by omega);rw [cmc_ok, show agE false = 1 from rfl] at GR;((with_reducible refine GR.mono ?_); rintro e w8 ⟨⟨v8, Z8, rfl, O8, HZ8⟩, hb8⟩);clear GR kc O8 HZ8;replace HB := Lib.hid (HB.out.trans (hb8.mono HB.out.size));replace km := Lib.hid (km.out.keep hb8);replace M := Lib.hid (M.out.keep hb8);replace R3 := Lib.hid (R3.out.keep hb8);clear hb8;have m0 := km.out.cell (i := 0) rfl;have m1 := km.out.cell (i := 1) rfl;have m2 := km.out.cell (i := 2) rfl;have m3 := km.out.cell (i := 3) rfl
 go_wp2_with fail
 clear m0 m1 m2 m3;have SH := E.shadow (some ⟨w.heap.size, 0, none⟩) none none (some ⟨w2.heap.size, 0, none⟩) 5 0 0 2 5 0 0 2 cmaV mz0 mz0 cmaC 1 2 _ M.out (by omega) (by omega);rw [cma_ok, cma_sh, show agE true = 0 from rfl, show ((2 : Int)).toNat = 2 from rfl, show ((1 : Int)).toNat = 1 from rfl, cma_shX.1, cma_shX.2.1, cma_shX.2.2, cma_shY.1, cma_shY.2.1, cma_shY.2.2] at SH
 simp only [vF_yes] at SH
 (((with_reducible refine (SH).mono ?_); rintro e w9 ⟨rfl, hb9⟩); replace HB := Lib.hid (HB.out.trans (hb9.mono HB.out.size)); replace km := Lib.hid (km.out.keep hb9); replace M := Lib.hid (M.out.keep hb9); replace R3 := Lib.hid (R3.out.keep hb9); clear hb9)
 clear SH;obtain ⟨b2, o2, t2, m2, ct2, x2, y2, l2, rfl, hb2, hL2, hx, hy, hz, hr, -, hmc, hcm⟩ := R3.out.at (i := 0) (by omega);have hL3 : ((2 : Int), (1 : Int), ([0, 1] : List Int)) = (x2, y2, l2) := Option.some.inj hL2
 cases hL3
 obtain rfl : m2 = 2 := hr.1.symm;clear hL2 hr hx hy hmc hcm hb2
 simp only [Nat.zero_mul, Nat.zero_add] at hz
 have hzA := keepa (o := .cells #[.int .i64 0, .int .i64 0, .int .i64 9, .int .i64 9, .int .i64 0, .int .i64 9] 37) hz
 have heq : ∀ w, (binOp .eql 37 (.agg #[.int .i64 0, .int .i64 0, .int .i64 9, .int .i64 9, .int .i64 0, .int .i64 9]) (.agg #[.int .i64 0, .int .i64 0, .int .i64 9, .int .i64 9, .int .i64 0, .int .i64 9])).run Tryz.prog w = .ok (.bool true) w := fun _ => by kernel_rfl
 have m0 := keepa (o := .cells #[.int .i64 0, .int .i64 0, .int .i64 9, .int .i64 9, .int .i64 0, .int .i64 9] 37) (km.out.cell (i := 0) rfl);have m1 := keepa (o := .cells #[.int .i64 0, .int .i64 0, .int .i64 9, .int .i64 9, .int .i64 0, .int .i64 9] 37) (km.out.cell (i := 1) rfl);have m2 := keepa (o := .cells #[.int .i64 0, .int .i64 0, .int .i64 9, .int .i64 9, .int .i64 0, .int .i64 9] 37) (km.out.cell (i := 2) rfl);have m3 := keepa (o := .cells #[.int .i64 0, .int .i64 0, .int .i64 9, .int .i64 9, .int .i64 0, .int .i64 9] 37) (km.out.cell (i := 3) rfl)
 go_wp2_with fail
 clear hzA hz heq m0 m1 m2 m3;have hbp := below_new1 w9 (.cells #[.int .i64 0, .int .i64 0, .int .i64 9, .int .i64 9, .int .i64 0, .int .i64 9] 37);replace km := Lib.hid (km.out.keep hbp);replace M := Lib.hid (M.out.keep hbp);replace R3 := Lib.hid (R3.out.keep hbp)
 have zp : (w9.alloc (.cells #[.int .i64 0, .int .i64 0, .int .i64 9, .int .i64 9, .int .i64 0, .int .i64 9] 37)).heap.size = w9.heap.size + 1 := by simp
 replace HB := Lib.hid (HB.out.trans (hbp.mono HB.out.size));have kp := Lib.hid (Lok.new w9 37 #[.int .i64 0, .int .i64 0, .int .i64 9, .int .i64 9, .int .i64 0, .int .i64 9]);clear hbp;generalize w9.alloc (.cells #[.int .i64 0, .int .i64 0, .int .i64 9, .int .i64 9, .int .i64 0, .int .i64 9] 37) = Vp at *;clear zp kp;have RI := E.right (some ⟨w.heap.size, 0, none⟩) none none (some ⟨w2.heap.size, 0, none⟩) 5 0 0 2 5 0 0 2 cmaV mz0 mz0 cmaC (some ⟨b2, o2, none⟩) 1 c3 [(2, 1, [0, 1])] _ M.out (by omega) (by omega) R3.out (by omega) (by decide);rw [cma_ok, cma_right] at RI
 (((with_reducible refine (RI).mono ?_); rintro e w10 ⟨rfl, hb10⟩); replace HB := Lib.hid (HB.out.trans (hb10.mono HB.out.size)); replace km := Lib.hid (km.out.keep hb10); replace M := Lib.hid (M.out.keep hb10); clear hb10)
 clear RI R3;have m0 := km.out.cell (i := 0) rfl;have m1 := km.out.cell (i := 1) rfl;have m2 := km.out.cell (i := 2) rfl;have m3 := km.out.cell (i := 3) rfl
 go_wp2_with fail
 clear m0 m1 m2 m3;have RI := E.right (some ⟨w.heap.size, 0, none⟩) none none (some ⟨w2.heap.size, 0, none⟩) 5 0 0 2 5 0 0 2 cmaV mz0 mz0 cmaC none 0 0 [] _ M.out (by omega) (by omega) ⟨rfl, .inl rfl⟩ (by omega) (by decide);rw [cma_ok, cma_not] at RI
 (((with_reducible refine (RI).mono ?_); rintro e w11 ⟨rfl, hb11⟩); replace HB := Lib.hid (HB.out.trans (hb11.mono HB.out.size)); replace km := Lib.hid (km.out.keep hb11); replace M := Lib.hid (M.out.keep hb11); clear hb11)
 clear RI;have m0 := km.out.cell (i := 0) rfl;have m1 := km.out.cell (i := 1) rfl;have m2 := km.out.cell (i := 2) rfl;have m3 := km.out.cell (i := 3) rfl
 go_wp2_with fail
 clear m0 m1 m2 m3;have TA := E.tame (some ⟨w.heap.size, 0, none⟩) none none (some ⟨w2.heap.size, 0, none⟩) 5 0 0 2 5 0 0 2 cmaV mz0 mz0 cmaC _ M.out (by omega) (by omega);rw [cma_ok] at TA
 (((with_reducible refine (TA).mono ?_); rintro e w12 ⟨rfl, hb12⟩); replace HB := Lib.hid (HB.out.trans (hb12.mono HB.out.size)); clear hb12)
 clear TA km M
 go_wp2
 go_ret
 exact ⟨rfl, HB.out⟩
end Go.Proofs.YtcnbbanpnoigdaaGreat
