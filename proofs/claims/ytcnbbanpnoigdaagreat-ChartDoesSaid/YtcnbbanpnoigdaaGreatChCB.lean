import Derived.Test.YtcnbbanpnoigdaaGreatChCA
namespace Go.Proofs.YtcnbbanpnoigdaaGreat
open Go.RowKit

set_option maxRecDepth 100000 in
set_option maxHeartbeats 800000 in
theorem points_any (pa1 pa2 pa3 pa4 : Option Addr) (n1 n2 n3 n4 c1 c2 c3 c4 : Nat) (FV FT FN FC : Nat → Nat → Int) (gl i : Nat) (w : World) (hm : MsW w pa1 pa2 pa3 pa4 n1 n2 n3 n4 FV FT FN FC) (hi : i < n4) (hF : ∀ i, i < n4 → ∀ j, j = 0 ∨ j = 3 ∨ j = 6 → 0 ≤ FC i j ∧ FC i j < (n1 : Int)) (hk : Lok w gl 50 (mshC pa1 pa2 pa3 pa4 n1 n2 n3 n4 c1 c2 c3 c4)) :
  Calls Tryz.prog 49 #[.pointer (some ⟨gl, 0, none⟩), .int .i64 i] w fun e w' => e = .returned (.agg #[.int .i64 (pp FV FC i 0 0), .int .i64 (pp FV FC i 0 1), .int .i64 (pp FV FC i 0 2), .int .i64 (pp FV FC i 1 0), .int .i64 (pp FV FC i 1 1), .int .i64 (pp FV FC i 1 2), .int .i64 (pp FV FC i 2 0), .int .i64 (pp FV FC i 2 1), .int .i64 (pp FV FC i 2 2)]) ∧ Below w.heap.size w w' := by
 have HB := Lib.hid (Below.refl w.heap.size w);unfold mshC at hk;have KL := Lib.hid hk;have HG : Hid (gl < w.heap.size) := Lib.hid hk.lt;have a0 := hF i hi 0 (.inl rfl);have a3 := hF i hi 3 (.inr (.inl rfl));have a6 := hF i hi 6 (.inr (.inr rfl));unfold pp;obtain ⟨b, o, rfl, hb, hc⟩ := hm.1.2.2.2.at hi;obtain ⟨b2, o2, rfl, hb2, hv⟩ := hm.1.1.at (i := (FC i 0).toNat) (by omega);have c0 := hc i hi 0 (by omega);have c3 := hc i hi 3 (by omega);have c6 := hc i hi 6 (by omega);have q1 := hc i hi 1 (by omega);have q2 := hc i hi 2 (by omega);have q4 := hc i hi 4 (by omega);have q5 := hc i hi 5 (by omega);have q7 := hc i hi 7 (by omega);have q8 := hc i hi 8 (by omega);rw [Nat.add_zero] at c0;rw [← Nat.add_assoc] at c3 c6 q1 q2 q4 q5 q7 q8;clear hc hm hF hk;obtain ⟨x, hx⟩ := Int.eq_ofNat_of_zero_le a0.1;obtain ⟨y, hy⟩ := Int.eq_ofNat_of_zero_le a3.1;obtain ⟨z, hz⟩ := Int.eq_ofNat_of_zero_le a6.1;rw [hx] at c0 a0;rw [hy] at c3 a3;rw [hz] at c6 a6;rw [show FC i (0 * 3) = FC i 0 from rfl, show FC i (1 * 3) = FC i 3 from rfl, show FC i (2 * 3) = FC i 6 from rfl, hx, hy, hz];clear hx hy hz;rw [show ((x : Int)).toNat = x from by omega, show ((y : Int)).toNat = y from by omega, show ((z : Int)).toNat = z from by omega];have V := fun (u : Nat) (h : (u : Int) < (n1 : Int)) (j : Nat) (hj : j < 3) => hv u (by omega) j hj;have v0 := V x a0.2 0 (by omega);have v1 := V x a0.2 1 (by omega);have v2 := V x a0.2 2 (by omega);have w0 := V y a3.2 0 (by omega);have w1 := V y a3.2 1 (by omega);have w2 := V y a3.2 2 (by omega);have y0 := V z a6.2 0 (by omega);have y1 := V z a6.2 1 (by omega);have y2 := V z a6.2 2 (by omega);rw [Nat.add_zero] at v0 w0 y0;rw [← Nat.add_assoc] at v1 v2 w1 w2 y1 y2;clear V hv;have e0 := a0.2;have e3 := a3.2;have e6 := a6.2;clear a0 a3 a6
 have f0 : (0 : Int) ≤ (x : Int) := by omega
 have f3 : (0 : Int) ≤ (y : Int) := by omega
 have f6 : (0 : Int) ≤ (z : Int) := by omega
 have g0 : ((x : Int)).toNat = x := by omega
 have g3 : ((y : Int)).toNat = y := by omega
 have g6 : ((z : Int)).toNat = z := by omega
 have i0 : (0 : Int) ≤ (i : Int) := by omega
 have i1 : (i : Int) < (n4 : Int) := by omega
 have i2 : ((i : Int)).toNat = i := by omega
 generalize FV x 0 = p0 at *;generalize FV x 1 = p1 at *;generalize FV x 2 = p2 at *;generalize FV y 0 = p3 at *;generalize FV y 1 = p4 at *;generalize FV y 2 = p5 at *;generalize FV z 0 = p6 at *;generalize FV z 1 = p7 at *;generalize FV z 2 = p8 at *;generalize FC i 1 = r1 at *;generalize FC i 2 = r2 at *;generalize FC i 4 = r4 at *;generalize FC i 5 = r5 at *;generalize FC i 7 = r7 at *;generalize FC i 8 = r8 at *
 go_enter Tryz.func49, Tryz.ntmps49
 go_upto_region 1 with fail
 have hbr := below_new1 w (.cells #[.int .i64 0, .int .i64 0, .int .i64 0, .int .i64 0, .int .i64 0, .int .i64 0, .int .i64 0, .int .i64 0, .int .i64 0] 58);replace KL := Lib.hid (KL.out.keep hbr)
 have zr : (w.alloc (.cells #[.int .i64 0, .int .i64 0, .int .i64 0, .int .i64 0, .int .i64 0, .int .i64 0, .int .i64 0, .int .i64 0, .int .i64 0] 58)).heap.size = w.heap.size + 1 := by simp
 have HB := Lib.hid hbr;have kr := Lib.hid (Lok.new w 58 #[.int .i64 0, .int .i64 0, .int .i64 0, .int .i64 0, .int .i64 0, .int .i64 0, .int .i64 0, .int .i64 0, .int .i64 0]);clear hbr;generalize w.alloc (.cells #[.int .i64 0, .int .i64 0, .int .i64 0, .int .i64 0, .int .i64 0, .int .i64 0, .int .i64 0, .int .i64 0, .int .i64 0] 58) = Vr at *;clear zr;have hba : Hid (b < w.heap.size) := Lib.hid hb;have hbb : Hid (b2 < w.heap.size) := Lib.hid hb2;have BA := Lib.hid (fun o v (h : w.cell? ⟨b, o, none⟩ = some v) => keepc HB.out h);have BV := Lib.hid (fun o v (h : w.cell? ⟨b2, o, none⟩ = some v) => keepc HB.out h);replace c0 := BA.out _ _ c0;replace c3 := BA.out _ _ c3;replace c6 := BA.out _ _ c6;replace q1 := BA.out _ _ q1;replace q2 := BA.out _ _ q2;replace q4 := BA.out _ _ q4;replace q5 := BA.out _ _ q5;replace q7 := BA.out _ _ q7;replace q8 := BA.out _ _ q8;replace v0 := BV.out _ _ v0;replace v1 := BV.out _ _ v1;replace v2 := BV.out _ _ v2;replace w0 := BV.out _ _ w0;replace w1 := BV.out _ _ w1;replace w2 := BV.out _ _ w2;replace y0 := BV.out _ _ y0;replace y1 := BV.out _ _ y1;replace y2 := BV.out _ _ y2;have m0 := KL.out.cell (i := 0) rfl;have m3 := KL.out.cell (i := 3) rfl
 go_upto_region 2 with fail
 have hbt := below_new1 Vr (.cells #[.int .i64 x, .int .i64 r1, .int .i64 r2, .int .i64 y, .int .i64 r4, .int .i64 r5, .int .i64 z, .int .i64 r7, .int .i64 r8] 88);have KT := Lib.hid (Lok.new Vr 88 #[.int .i64 x, .int .i64 r1, .int .i64 r2, .int .i64 y, .int .i64 r4, .int .i64 r5, .int .i64 z, .int .i64 r7, .int .i64 r8]);have hne : w.heap.size < Vr.heap.size := kr.out.lt
 have hgt : Vr.heap.size < (Vr.alloc (.cells #[.int .i64 x, .int .i64 r1, .int .i64 r2, .int .i64 y, .int .i64 r4, .int .i64 r5, .int .i64 z, .int .i64 r7, .int .i64 r8] 88)).heap.size := by simp
 replace kr := Lib.hid (kr.out.keep hbt);replace HB := Lib.hid (HB.out.trans (hbt.mono HB.out.size));replace v0 := keepc hbt v0;replace v1 := keepc hbt v1;replace v2 := keepc hbt v2;replace w0 := keepc hbt w0;replace w1 := keepc hbt w1;replace w2 := keepc hbt w2;replace y0 := keepc hbt y0;replace y1 := keepc hbt y1;replace y2 := keepc hbt y2;replace m0 := keepc hbt m0;clear c0 c3 c6 q1 q2 q4 q5 q7 q8 m3 hbt BA BV KL;generalize Vr.alloc (.cells #[.int .i64 x, .int .i64 r1, .int .i64 r2, .int .i64 y, .int .i64 r4, .int .i64 r5, .int .i64 z, .int .i64 r7, .int .i64 r8] 88) = Vt at *;generalize Vr.heap.size = gt at *
 refine wp_region_rel (by kernel_rfl) [14, 15, 16, 17, 18, 19, 20, 21, 22, 23, 24, 25, 26, 27, 28, 29, 30, 31, 32, 33, 34, 35, 36, 37, 38, 39, 40, 41, 42, 43, 44] ?Fr1 ?hFr1
  (fun L u W => Below (w.heap.size) Vt W ∧ (L 0 = true → u 14 = .pointer (some ⟨gl, 0, none⟩)) ∧ (L 1 = true → u 15 = .pointer (some ⟨gl, 0, none⟩)) ∧ (L 2 = true → u 16 = .pointer (some ⟨gl, 0, none⟩)) ∧ (L 3 = true → u 17 = .pointer (some ⟨gl, 0, none⟩)) ∧ (L 4 = true → u 18 = .slice (some ⟨b2, o2, none⟩) n1 c1) ∧ (L 5 = true → u 19 = .pointer (some ⟨gt, 0, none⟩)) ∧ (L 6 = true → u 20 = .pointer (some ⟨gt, 0, none⟩)) ∧ (L 7 = true → u 21 = .int .i64 x) ∧ (L 8 = true → u 22 = .pointer (some ⟨b2, o2 + x * 3, none⟩)) ∧ (L 9 = true → u 23 = .agg #[.int .i64 p0, .int .i64 p1, .int .i64 p2]) ∧ (L 10 = true → u 24 = .pointer (some ⟨gl, 0, none⟩)) ∧ (L 11 = true → u 25 = .pointer (some ⟨gl, 0, none⟩)) ∧ (L 12 = true → u 26 = .pointer (some ⟨gl, 0, none⟩)) ∧ (L 13 = true → u 27 = .pointer (some ⟨gl, 0, none⟩)) ∧ (L 14 = true → u 28 = .slice (some ⟨b2, o2, none⟩) n1 c1) ∧ (L 15 = true → u 29 = .pointer (some ⟨gt, 3, none⟩)) ∧ (L 16 = true → u 30 = .pointer (some ⟨gt, 3, none⟩)) ∧ (L 17 = true → u 31 = .int .i64 y) ∧ (L 18 = true → u 32 = .pointer (some ⟨b2, o2 + y * 3, none⟩)) ∧ (L 19 = true → u 33 = .agg #[.int .i64 p3, .int .i64 p4, .int .i64 p5]) ∧ (L 20 = true → u 34 = .pointer (some ⟨gl, 0, none⟩)) ∧ (L 21 = true → u 35 = .pointer (some ⟨gl, 0, none⟩)) ∧ (L 22 = true → u 36 = .pointer (some ⟨gl, 0, none⟩)) ∧ (L 23 = true → u 37 = .pointer (some ⟨gl, 0, none⟩)) ∧ (L 24 = true → u 38 = .slice (some ⟨b2, o2, none⟩) n1 c1) ∧ (L 25 = true → u 39 = .pointer (some ⟨gt, 6, none⟩)) ∧ (L 26 = true → u 40 = .pointer (some ⟨gt, 6, none⟩)) ∧ (L 27 = true → u 41 = .int .i64 z) ∧ (L 28 = true → u 42 = .pointer (some ⟨b2, o2 + z * 3, none⟩)) ∧ (L 29 = true → u 43 = .agg #[.int .i64 p6, .int .i64 p7, .int .i64 p8]) ∧ (L 30 = true → u 44 = .agg #[.int .i64 p0, .int .i64 p1, .int .i64 p2, .int .i64 p3, .int .i64 p4, .int .i64 p5, .int .i64 p6, .int .i64 p7, .int .i64 p8]) ∧ (L 31 = false → Lok W (w.heap.size) 58 #[.int .i64 0, .int .i64 0, .int .i64 0, .int .i64 0, .int .i64 0, .int .i64 0, .int .i64 0, .int .i64 0, .int .i64 0]) ∧ (L 31 = true → Lok W (w.heap.size) 58 #[.int .i64 p0, .int .i64 p1, .int .i64 p2, .int .i64 p3, .int .i64 p4, .int .i64 p5, .int .i64 p6, .int .i64 p7, .int .i64 p8]) ∧ Lok W (gt) 88 #[.int .i64 x, .int .i64 r1, .int .i64 r2, .int .i64 y, .int .i64 r4, .int .i64 r5, .int .i64 z, .int .i64 r7, .int .i64 r8]) (by kernel_rfl) (by kernel_rfl) 32 rfl ?h0r1 ?stepr1 ?finr1
 case hFr1 => intro u; simp only [putAll, Act.put, List.setIfInBounds_toArray, List.set]; exact rfl
 case h0r1 => intro L u hL; exact ⟨(Below.refl _ _).drew, (fun h => by simp [hL] at h), (fun h => by simp [hL] at h), (fun h => by simp [hL] at h), (fun h => by simp [hL] at h), (fun h => by simp [hL] at h), (fun h => by simp [hL] at h), (fun h => by simp [hL] at h), (fun h => by simp [hL] at h), (fun h => by simp [hL] at h), (fun h => by simp [hL] at h), (fun h => by simp [hL] at h), (fun h => by simp [hL] at h), (fun h => by simp [hL] at h), (fun h => by simp [hL] at h), (fun h => by simp [hL] at h), (fun h => by simp [hL] at h), (fun h => by simp [hL] at h), (fun h => by simp [hL] at h), (fun h => by simp [hL] at h), (fun h => by simp [hL] at h), (fun h => by simp [hL] at h), (fun h => by simp [hL] at h), (fun h => by simp [hL] at h), (fun h => by simp [hL] at h), (fun h => by simp [hL] at h), (fun h => by simp [hL] at h), (fun h => by simp [hL] at h), (fun h => by simp [hL] at h), (fun h => by simp [hL] at h), (fun h => by simp [hL] at h), (fun h => by simp [hL] at h), (fun _ => by assumption), (fun h => by simp [hL] at h), (by first | assumption | (apply Lok.drew; assumption))⟩
 case stepr1 =>
  refine ops_all (ops_cons ?s0r1 (ops_cons ?s1r1 (ops_cons ?s2r1 (ops_cons ?s3r1 (ops_cons ?s4r1 (ops_cons ?s5r1 (ops_cons ?s6r1 (ops_cons ?s7r1 (ops_cons ?s8r1 (ops_cons ?s9r1 (ops_cons ?s10r1 (ops_cons ?s11r1 (ops_cons ?s12r1 (ops_cons ?s13r1 (ops_cons ?s14r1 (ops_cons ?s15r1 (ops_cons ?s16r1 (ops_cons ?s17r1 (ops_cons ?s18r1 (ops_cons ?s19r1 (ops_cons ?s20r1 (ops_cons ?s21r1 (ops_cons ?s22r1 (ops_cons ?s23r1 (ops_cons ?s24r1 (ops_cons ?s25r1 (ops_cons ?s26r1 (ops_cons ?s27r1 (ops_cons ?s28r1 (ops_cons ?s29r1 (ops_cons ?s30r1 (ops_cons ?s31r1 (ops_nil)))))))))))))))))))))))))))))))))
  case s0r1 =>
   rintro L u W ⟨hB, c0, c1, c2, c3, c4, c5, c6, c7, c8, c9, c10, c11, c12, c13, c14, c15, c16, c17, c18, c19, c20, c21, c22, c23, c24, c25, c26, c27, c28, c29, c30, o31, wn31, lk1⟩ hf hd K hK
   dsimp only at hK
   clear hd
   go_simp
   refine hK _ _ ?_ (fun h => by cases h)
   intro s hs
   cases hs
   exact ⟨hB, (fun _ => rfl), c1, c2, c3, c4, c5, c6, c7, c8, c9, c10, c11, c12, c13, c14, c15, c16, c17, c18, c19, c20, c21, c22, c23, c24, c25, c26, c27, c28, c29, c30, o31, wn31, lk1⟩
  case s1r1 =>
   rintro L u W ⟨hB, c0, c1, c2, c3, c4, c5, c6, c7, c8, c9, c10, c11, c12, c13, c14, c15, c16, c17, c18, c19, c20, c21, c22, c23, c24, c25, c26, c27, c28, c29, c30, o31, wn31, lk1⟩ hf hd K hK
   dsimp only at hK
   have hd0 : L 0 = true := (by first | exact hd ⟨0, .data⟩ (by simp) rfl | exact hd ⟨0, .guard⟩ (by simp) rfl | exact hd ⟨0, .phase⟩ (by simp) rfl | exact hd ⟨0, .chain⟩ (by simp) rfl);have e0 := c0 hd0;rw [e0] at hK;clear hd0;clear hd
   go_simp
   refine hK _ _ ?_ (fun h => by cases h)
   intro s hs
   cases hs
   exact ⟨hB, c0, (fun _ => rfl), c2, c3, c4, c5, c6, c7, c8, c9, c10, c11, c12, c13, c14, c15, c16, c17, c18, c19, c20, c21, c22, c23, c24, c25, c26, c27, c28, c29, c30, o31, wn31, lk1⟩
  case s2r1 =>
   rintro L u W ⟨hB, c0, c1, c2, c3, c4, c5, c6, c7, c8, c9, c10, c11, c12, c13, c14, c15, c16, c17, c18, c19, c20, c21, c22, c23, c24, c25, c26, c27, c28, c29, c30, o31, wn31, lk1⟩ hf hd K hK
   dsimp only at hK
   have hd1 : L 1 = true := (by first | exact hd ⟨1, .data⟩ (by simp) rfl | exact hd ⟨1, .guard⟩ (by simp) rfl | exact hd ⟨1, .phase⟩ (by simp) rfl | exact hd ⟨1, .chain⟩ (by simp) rfl);have e1 := c1 hd1;rw [e1] at hK;clear hd1;clear hd
   go_simp
   refine hK _ _ ?_ (fun h => by cases h)
   intro s hs
   cases hs
   exact ⟨hB, c0, c1, (fun _ => rfl), c3, c4, c5, c6, c7, c8, c9, c10, c11, c12, c13, c14, c15, c16, c17, c18, c19, c20, c21, c22, c23, c24, c25, c26, c27, c28, c29, c30, o31, wn31, lk1⟩
  case s3r1 =>
   rintro L u W ⟨hB, c0, c1, c2, c3, c4, c5, c6, c7, c8, c9, c10, c11, c12, c13, c14, c15, c16, c17, c18, c19, c20, c21, c22, c23, c24, c25, c26, c27, c28, c29, c30, o31, wn31, lk1⟩ hf hd K hK
   dsimp only at hK
   have hd2 : L 2 = true := (by first | exact hd ⟨2, .data⟩ (by simp) rfl | exact hd ⟨2, .guard⟩ (by simp) rfl | exact hd ⟨2, .phase⟩ (by simp) rfl | exact hd ⟨2, .chain⟩ (by simp) rfl);have e2 := c2 hd2;rw [e2] at hK;clear hd2;clear hd
   go_simp
   refine hK _ _ ?_ (fun h => by cases h)
   intro s hs
   cases hs
   exact ⟨hB, c0, c1, c2, (fun _ => rfl), c4, c5, c6, c7, c8, c9, c10, c11, c12, c13, c14, c15, c16, c17, c18, c19, c20, c21, c22, c23, c24, c25, c26, c27, c28, c29, c30, o31, wn31, lk1⟩
  case s4r1 =>
   rintro L u W ⟨hB, c0, c1, c2, c3, c4, c5, c6, c7, c8, c9, c10, c11, c12, c13, c14, c15, c16, c17, c18, c19, c20, c21, c22, c23, c24, c25, c26, c27, c28, c29, c30, o31, wn31, lk1⟩ hf hd K hK
   dsimp only at hK
   have hd3 : L 3 = true := (by first | exact hd ⟨3, .data⟩ (by simp) rfl | exact hd ⟨3, .guard⟩ (by simp) rfl | exact hd ⟨3, .phase⟩ (by simp) rfl | exact hd ⟨3, .chain⟩ (by simp) rfl);have e3 := c3 hd3;rw [e3] at hK;have t0 := (hB.cell (p := ⟨gl, 0, none⟩) HG.out).trans m0;clear hd3;clear hd
   go_simp
   refine hK _ _ ?_ (fun h => by cases h)
   intro s hs
   cases hs
   exact ⟨hB, c0, c1, c2, c3, (fun _ => rfl), c5, c6, c7, c8, c9, c10, c11, c12, c13, c14, c15, c16, c17, c18, c19, c20, c21, c22, c23, c24, c25, c26, c27, c28, c29, c30, o31, wn31, lk1⟩
  case s5r1 =>
   rintro L u W ⟨hB, c0, c1, c2, c3, c4, c5, c6, c7, c8, c9, c10, c11, c12, c13, c14, c15, c16, c17, c18, c19, c20, c21, c22, c23, c24, c25, c26, c27, c28, c29, c30, o31, wn31, lk1⟩ hf hd K hK
   dsimp only at hK
   clear hd
   go_simp
   refine hK _ _ ?_ (fun h => by cases h)
   intro s hs
   cases hs
   exact ⟨hB, c0, c1, c2, c3, c4, (fun _ => rfl), c6, c7, c8, c9, c10, c11, c12, c13, c14, c15, c16, c17, c18, c19, c20, c21, c22, c23, c24, c25, c26, c27, c28, c29, c30, o31, wn31, lk1⟩
  case s6r1 =>
   rintro L u W ⟨hB, c0, c1, c2, c3, c4, c5, c6, c7, c8, c9, c10, c11, c12, c13, c14, c15, c16, c17, c18, c19, c20, c21, c22, c23, c24, c25, c26, c27, c28, c29, c30, o31, wn31, lk1⟩ hf hd K hK
   dsimp only at hK
   have hd5 : L 5 = true := (by first | exact hd ⟨5, .data⟩ (by simp) rfl | exact hd ⟨5, .guard⟩ (by simp) rfl | exact hd ⟨5, .phase⟩ (by simp) rfl | exact hd ⟨5, .chain⟩ (by simp) rfl);have e5 := c5 hd5;rw [e5] at hK;clear hd5;clear hd
   go_simp
   refine hK _ _ ?_ (fun h => by cases h)
   intro s hs
   cases hs
   exact ⟨hB, c0, c1, c2, c3, c4, c5, (fun _ => rfl), c7, c8, c9, c10, c11, c12, c13, c14, c15, c16, c17, c18, c19, c20, c21, c22, c23, c24, c25, c26, c27, c28, c29, c30, o31, wn31, lk1⟩
  case s7r1 =>
   rintro L u W ⟨hB, c0, c1, c2, c3, c4, c5, c6, c7, c8, c9, c10, c11, c12, c13, c14, c15, c16, c17, c18, c19, c20, c21, c22, c23, c24, c25, c26, c27, c28, c29, c30, o31, wn31, lk1⟩ hf hd K hK
   dsimp only at hK
   have hd6 : L 6 = true := (by first | exact hd ⟨6, .data⟩ (by simp) rfl | exact hd ⟨6, .guard⟩ (by simp) rfl | exact hd ⟨6, .phase⟩ (by simp) rfl | exact hd ⟨6, .chain⟩ (by simp) rfl);have e6 := c6 hd6;rw [e6] at hK;have t0 := lk1.cell (i := 0) rfl;clear hd6;clear hd
   go_simp
   refine hK _ _ ?_ (fun h => by cases h)
   intro s hs
   cases hs
   exact ⟨hB, c0, c1, c2, c3, c4, c5, c6, (fun _ => rfl), c8, c9, c10, c11, c12, c13, c14, c15, c16, c17, c18, c19, c20, c21, c22, c23, c24, c25, c26, c27, c28, c29, c30, o31, wn31, lk1⟩
  case s8r1 =>
   rintro L u W ⟨hB, c0, c1, c2, c3, c4, c5, c6, c7, c8, c9, c10, c11, c12, c13, c14, c15, c16, c17, c18, c19, c20, c21, c22, c23, c24, c25, c26, c27, c28, c29, c30, o31, wn31, lk1⟩ hf hd K hK
   dsimp only at hK
   have hd4 : L 4 = true := (by first | exact hd ⟨4, .data⟩ (by simp) rfl | exact hd ⟨4, .guard⟩ (by simp) rfl | exact hd ⟨4, .phase⟩ (by simp) rfl | exact hd ⟨4, .chain⟩ (by simp) rfl);have hd7 : L 7 = true := (by first | exact hd ⟨7, .data⟩ (by simp) rfl | exact hd ⟨7, .guard⟩ (by simp) rfl | exact hd ⟨7, .phase⟩ (by simp) rfl | exact hd ⟨7, .chain⟩ (by simp) rfl);have e4 := c4 hd4;rw [e4] at hK;have e7 := c7 hd7;rw [e7] at hK;clear hd4;clear hd7;clear hd
   go_simp
   refine hK _ _ ?_ (fun h => by cases h)
   intro s hs
   cases hs
   exact ⟨hB, c0, c1, c2, c3, c4, c5, c6, c7, (fun _ => rfl), c9, c10, c11, c12, c13, c14, c15, c16, c17, c18, c19, c20, c21, c22, c23, c24, c25, c26, c27, c28, c29, c30, o31, wn31, lk1⟩
  case s9r1 =>
   rintro L u W ⟨hB, c0, c1, c2, c3, c4, c5, c6, c7, c8, c9, c10, c11, c12, c13, c14, c15, c16, c17, c18, c19, c20, c21, c22, c23, c24, c25, c26, c27, c28, c29, c30, o31, wn31, lk1⟩ hf hd K hK
   dsimp only at hK
   have hd8 : L 8 = true := (by first | exact hd ⟨8, .data⟩ (by simp) rfl | exact hd ⟨8, .guard⟩ (by simp) rfl | exact hd ⟨8, .phase⟩ (by simp) rfl | exact hd ⟨8, .chain⟩ (by simp) rfl);have e8 := c8 hd8;rw [e8] at hK;have t0 := (hB.cell (p := ⟨b2, o2 + x * 3, none⟩) hbb.out).trans v0;have t1 := (hB.cell (p := ⟨b2, o2 + x * 3 + 1, none⟩) hbb.out).trans v1;have t2 := (hB.cell (p := ⟨b2, o2 + x * 3 + 2, none⟩) hbb.out).trans v2;clear hd8;clear hd
   go_simp
   refine hK _ _ ?_ (fun h => by cases h)
   intro s hs
   cases hs
   exact ⟨hB, c0, c1, c2, c3, c4, c5, c6, c7, c8, (fun _ => rfl), c10, c11, c12, c13, c14, c15, c16, c17, c18, c19, c20, c21, c22, c23, c24, c25, c26, c27, c28, c29, c30, o31, wn31, lk1⟩
  case s10r1 =>
   rintro L u W ⟨hB, c0, c1, c2, c3, c4, c5, c6, c7, c8, c9, c10, c11, c12, c13, c14, c15, c16, c17, c18, c19, c20, c21, c22, c23, c24, c25, c26, c27, c28, c29, c30, o31, wn31, lk1⟩ hf hd K hK
   dsimp only at hK
   clear hd
   go_simp
   refine hK _ _ ?_ (fun h => by cases h)
   intro s hs
   cases hs
   exact ⟨hB, c0, c1, c2, c3, c4, c5, c6, c7, c8, c9, (fun _ => rfl), c11, c12, c13, c14, c15, c16, c17, c18, c19, c20, c21, c22, c23, c24, c25, c26, c27, c28, c29, c30, o31, wn31, lk1⟩
  case s11r1 =>
   rintro L u W ⟨hB, c0, c1, c2, c3, c4, c5, c6, c7, c8, c9, c10, c11, c12, c13, c14, c15, c16, c17, c18, c19, c20, c21, c22, c23, c24, c25, c26, c27, c28, c29, c30, o31, wn31, lk1⟩ hf hd K hK
   dsimp only at hK
   have hd10 : L 10 = true := (by first | exact hd ⟨10, .data⟩ (by simp) rfl | exact hd ⟨10, .guard⟩ (by simp) rfl | exact hd ⟨10, .phase⟩ (by simp) rfl | exact hd ⟨10, .chain⟩ (by simp) rfl);have e10 := c10 hd10;rw [e10] at hK;clear hd10;clear hd
   go_simp
   refine hK _ _ ?_ (fun h => by cases h)
   intro s hs
   cases hs
   exact ⟨hB, c0, c1, c2, c3, c4, c5, c6, c7, c8, c9, c10, (fun _ => rfl), c12, c13, c14, c15, c16, c17, c18, c19, c20, c21, c22, c23, c24, c25, c26, c27, c28, c29, c30, o31, wn31, lk1⟩
  case s12r1 =>
   rintro L u W ⟨hB, c0, c1, c2, c3, c4, c5, c6, c7, c8, c9, c10, c11, c12, c13, c14, c15, c16, c17, c18, c19, c20, c21, c22, c23, c24, c25, c26, c27, c28, c29, c30, o31, wn31, lk1⟩ hf hd K hK
   dsimp only at hK
   have hd11 : L 11 = true := (by first | exact hd ⟨11, .data⟩ (by simp) rfl | exact hd ⟨11, .guard⟩ (by simp) rfl | exact hd ⟨11, .phase⟩ (by simp) rfl | exact hd ⟨11, .chain⟩ (by simp) rfl);have e11 := c11 hd11;rw [e11] at hK;clear hd11;clear hd
   go_simp
   refine hK _ _ ?_ (fun h => by cases h)
   intro s hs
   cases hs
   exact ⟨hB, c0, c1, c2, c3, c4, c5, c6, c7, c8, c9, c10, c11, (fun _ => rfl), c13, c14, c15, c16, c17, c18, c19, c20, c21, c22, c23, c24, c25, c26, c27, c28, c29, c30, o31, wn31, lk1⟩
  case s13r1 =>
   rintro L u W ⟨hB, c0, c1, c2, c3, c4, c5, c6, c7, c8, c9, c10, c11, c12, c13, c14, c15, c16, c17, c18, c19, c20, c21, c22, c23, c24, c25, c26, c27, c28, c29, c30, o31, wn31, lk1⟩ hf hd K hK
   dsimp only at hK
   have hd12 : L 12 = true := (by first | exact hd ⟨12, .data⟩ (by simp) rfl | exact hd ⟨12, .guard⟩ (by simp) rfl | exact hd ⟨12, .phase⟩ (by simp) rfl | exact hd ⟨12, .chain⟩ (by simp) rfl);have e12 := c12 hd12;rw [e12] at hK;clear hd12;clear hd
   go_simp
   refine hK _ _ ?_ (fun h => by cases h)
   intro s hs
   cases hs
   exact ⟨hB, c0, c1, c2, c3, c4, c5, c6, c7, c8, c9, c10, c11, c12, (fun _ => rfl), c14, c15, c16, c17, c18, c19, c20, c21, c22, c23, c24, c25, c26, c27, c28, c29, c30, o31, wn31, lk1⟩
  case s14r1 =>
   rintro L u W ⟨hB, c0, c1, c2, c3, c4, c5, c6, c7, c8, c9, c10, c11, c12, c13, c14, c15, c16, c17, c18, c19, c20, c21, c22, c23, c24, c25, c26, c27, c28, c29, c30, o31, wn31, lk1⟩ hf hd K hK
   dsimp only at hK
   have hd13 : L 13 = true := (by first | exact hd ⟨13, .data⟩ (by simp) rfl | exact hd ⟨13, .guard⟩ (by simp) rfl | exact hd ⟨13, .phase⟩ (by simp) rfl | exact hd ⟨13, .chain⟩ (by simp) rfl);have e13 := c13 hd13;rw [e13] at hK;have t0 := (hB.cell (p := ⟨gl, 0, none⟩) HG.out).trans m0;clear hd13;clear hd
   go_simp
   refine hK _ _ ?_ (fun h => by cases h)
   intro s hs
   cases hs
   exact ⟨hB, c0, c1, c2, c3, c4, c5, c6, c7, c8, c9, c10, c11, c12, c13, (fun _ => rfl), c15, c16, c17, c18, c19, c20, c21, c22, c23, c24, c25, c26, c27, c28, c29, c30, o31, wn31, lk1⟩
  case s15r1 =>
   rintro L u W ⟨hB, c0, c1, c2, c3, c4, c5, c6, c7, c8, c9, c10, c11, c12, c13, c14, c15, c16, c17, c18, c19, c20, c21, c22, c23, c24, c25, c26, c27, c28, c29, c30, o31, wn31, lk1⟩ hf hd K hK
   dsimp only at hK
   clear hd
   go_simp
   refine hK _ _ ?_ (fun h => by cases h)
   intro s hs
   cases hs
   exact ⟨hB, c0, c1, c2, c3, c4, c5, c6, c7, c8, c9, c10, c11, c12, c13, c14, (fun _ => rfl), c16, c17, c18, c19, c20, c21, c22, c23, c24, c25, c26, c27, c28, c29, c30, o31, wn31, lk1⟩
  case s16r1 =>
   rintro L u W ⟨hB, c0, c1, c2, c3, c4, c5, c6, c7, c8, c9, c10, c11, c12, c13, c14, c15, c16, c17, c18, c19, c20, c21, c22, c23, c24, c25, c26, c27, c28, c29, c30, o31, wn31, lk1⟩ hf hd K hK
   dsimp only at hK
   have hd15 : L 15 = true := (by first | exact hd ⟨15, .data⟩ (by simp) rfl | exact hd ⟨15, .guard⟩ (by simp) rfl | exact hd ⟨15, .phase⟩ (by simp) rfl | exact hd ⟨15, .chain⟩ (by simp) rfl);have e15 := c15 hd15;rw [e15] at hK;clear hd15;clear hd
   go_simp
   refine hK _ _ ?_ (fun h => by cases h)
   intro s hs
   cases hs
   exact ⟨hB, c0, c1, c2, c3, c4, c5, c6, c7, c8, c9, c10, c11, c12, c13, c14, c15, (fun _ => rfl), c17, c18, c19, c20, c21, c22, c23, c24, c25, c26, c27, c28, c29, c30, o31, wn31, lk1⟩
  case s17r1 =>
   rintro L u W ⟨hB, c0, c1, c2, c3, c4, c5, c6, c7, c8, c9, c10, c11, c12, c13, c14, c15, c16, c17, c18, c19, c20, c21, c22, c23, c24, c25, c26, c27, c28, c29, c30, o31, wn31, lk1⟩ hf hd K hK
   dsimp only at hK
   have hd16 : L 16 = true := (by first | exact hd ⟨16, .data⟩ (by simp) rfl | exact hd ⟨16, .guard⟩ (by simp) rfl | exact hd ⟨16, .phase⟩ (by simp) rfl | exact hd ⟨16, .chain⟩ (by simp) rfl);have e16 := c16 hd16;rw [e16] at hK;have t0 := lk1.cell (i := 3) rfl;clear hd16;clear hd
   go_simp
   refine hK _ _ ?_ (fun h => by cases h)
   intro s hs
   cases hs
   exact ⟨hB, c0, c1, c2, c3, c4, c5, c6, c7, c8, c9, c10, c11, c12, c13, c14, c15, c16, (fun _ => rfl), c18, c19, c20, c21, c22, c23, c24, c25, c26, c27, c28, c29, c30, o31, wn31, lk1⟩
  case s18r1 =>
   rintro L u W ⟨hB, c0, c1, c2, c3, c4, c5, c6, c7, c8, c9, c10, c11, c12, c13, c14, c15, c16, c17, c18, c19, c20, c21, c22, c23, c24, c25, c26, c27, c28, c29, c30, o31, wn31, lk1⟩ hf hd K hK
   dsimp only at hK
   have hd14 : L 14 = true := (by first | exact hd ⟨14, .data⟩ (by simp) rfl | exact hd ⟨14, .guard⟩ (by simp) rfl | exact hd ⟨14, .phase⟩ (by simp) rfl | exact hd ⟨14, .chain⟩ (by simp) rfl);have hd17 : L 17 = true := (by first | exact hd ⟨17, .data⟩ (by simp) rfl | exact hd ⟨17, .guard⟩ (by simp) rfl | exact hd ⟨17, .phase⟩ (by simp) rfl | exact hd ⟨17, .chain⟩ (by simp) rfl);have e14 := c14 hd14;rw [e14] at hK;have e17 := c17 hd17;rw [e17] at hK;clear hd14;clear hd17;clear hd
   go_simp
   refine hK _ _ ?_ (fun h => by cases h)
   intro s hs
   cases hs
   exact ⟨hB, c0, c1, c2, c3, c4, c5, c6, c7, c8, c9, c10, c11, c12, c13, c14, c15, c16, c17, (fun _ => rfl), c19, c20, c21, c22, c23, c24, c25, c26, c27, c28, c29, c30, o31, wn31, lk1⟩
  case s19r1 =>
   rintro L u W ⟨hB, c0, c1, c2, c3, c4, c5, c6, c7, c8, c9, c10, c11, c12, c13, c14, c15, c16, c17, c18, c19, c20, c21, c22, c23, c24, c25, c26, c27, c28, c29, c30, o31, wn31, lk1⟩ hf hd K hK
   dsimp only at hK
   have hd18 : L 18 = true := (by first | exact hd ⟨18, .data⟩ (by simp) rfl | exact hd ⟨18, .guard⟩ (by simp) rfl | exact hd ⟨18, .phase⟩ (by simp) rfl | exact hd ⟨18, .chain⟩ (by simp) rfl);have e18 := c18 hd18;rw [e18] at hK;have t0 := (hB.cell (p := ⟨b2, o2 + y * 3, none⟩) hbb.out).trans w0;have t1 := (hB.cell (p := ⟨b2, o2 + y * 3 + 1, none⟩) hbb.out).trans w1;have t2 := (hB.cell (p := ⟨b2, o2 + y * 3 + 2, none⟩) hbb.out).trans w2;clear hd18;clear hd
   go_simp
   refine hK _ _ ?_ (fun h => by cases h)
   intro s hs
   cases hs
   exact ⟨hB, c0, c1, c2, c3, c4, c5, c6, c7, c8, c9, c10, c11, c12, c13, c14, c15, c16, c17, c18, (fun _ => rfl), c20, c21, c22, c23, c24, c25, c26, c27, c28, c29, c30, o31, wn31, lk1⟩
  case s20r1 =>
   rintro L u W ⟨hB, c0, c1, c2, c3, c4, c5, c6, c7, c8, c9, c10, c11, c12, c13, c14, c15, c16, c17, c18, c19, c20, c21, c22, c23, c24, c25, c26, c27, c28, c29, c30, o31, wn31, lk1⟩ hf hd K hK
   dsimp only at hK
   clear hd
   go_simp
   refine hK _ _ ?_ (fun h => by cases h)
   intro s hs
   cases hs
   exact ⟨hB, c0, c1, c2, c3, c4, c5, c6, c7, c8, c9, c10, c11, c12, c13, c14, c15, c16, c17, c18, c19, (fun _ => rfl), c21, c22, c23, c24, c25, c26, c27, c28, c29, c30, o31, wn31, lk1⟩
  case s21r1 =>
   rintro L u W ⟨hB, c0, c1, c2, c3, c4, c5, c6, c7, c8, c9, c10, c11, c12, c13, c14, c15, c16, c17, c18, c19, c20, c21, c22, c23, c24, c25, c26, c27, c28, c29, c30, o31, wn31, lk1⟩ hf hd K hK
   dsimp only at hK
   have hd20 : L 20 = true := (by first | exact hd ⟨20, .data⟩ (by simp) rfl | exact hd ⟨20, .guard⟩ (by simp) rfl | exact hd ⟨20, .phase⟩ (by simp) rfl | exact hd ⟨20, .chain⟩ (by simp) rfl);have e20 := c20 hd20;rw [e20] at hK;clear hd20;clear hd
   go_simp
   refine hK _ _ ?_ (fun h => by cases h)
   intro s hs
   cases hs
   exact ⟨hB, c0, c1, c2, c3, c4, c5, c6, c7, c8, c9, c10, c11, c12, c13, c14, c15, c16, c17, c18, c19, c20, (fun _ => rfl), c22, c23, c24, c25, c26, c27, c28, c29, c30, o31, wn31, lk1⟩
  case s22r1 =>
   rintro L u W ⟨hB, c0, c1, c2, c3, c4, c5, c6, c7, c8, c9, c10, c11, c12, c13, c14, c15, c16, c17, c18, c19, c20, c21, c22, c23, c24, c25, c26, c27, c28, c29, c30, o31, wn31, lk1⟩ hf hd K hK
   dsimp only at hK
   have hd21 : L 21 = true := (by first | exact hd ⟨21, .data⟩ (by simp) rfl | exact hd ⟨21, .guard⟩ (by simp) rfl | exact hd ⟨21, .phase⟩ (by simp) rfl | exact hd ⟨21, .chain⟩ (by simp) rfl);have e21 := c21 hd21;rw [e21] at hK;clear hd21;clear hd
   go_simp
   refine hK _ _ ?_ (fun h => by cases h)
   intro s hs
   cases hs
   exact ⟨hB, c0, c1, c2, c3, c4, c5, c6, c7, c8, c9, c10, c11, c12, c13, c14, c15, c16, c17, c18, c19, c20, c21, (fun _ => rfl), c23, c24, c25, c26, c27, c28, c29, c30, o31, wn31, lk1⟩
  case s23r1 =>
   rintro L u W ⟨hB, c0, c1, c2, c3, c4, c5, c6, c7, c8, c9, c10, c11, c12, c13, c14, c15, c16, c17, c18, c19, c20, c21, c22, c23, c24, c25, c26, c27, c28, c29, c30, o31, wn31, lk1⟩ hf hd K hK
   dsimp only at hK
   have hd22 : L 22 = true := (by first | exact hd ⟨22, .data⟩ (by simp) rfl | exact hd ⟨22, .guard⟩ (by simp) rfl | exact hd ⟨22, .phase⟩ (by simp) rfl | exact hd ⟨22, .chain⟩ (by simp) rfl);have e22 := c22 hd22;rw [e22] at hK;clear hd22;clear hd
   go_simp
   refine hK _ _ ?_ (fun h => by cases h)
   intro s hs
   cases hs
   exact ⟨hB, c0, c1, c2, c3, c4, c5, c6, c7, c8, c9, c10, c11, c12, c13, c14, c15, c16, c17, c18, c19, c20, c21, c22, (fun _ => rfl), c24, c25, c26, c27, c28, c29, c30, o31, wn31, lk1⟩
  case s24r1 =>
   rintro L u W ⟨hB, c0, c1, c2, c3, c4, c5, c6, c7, c8, c9, c10, c11, c12, c13, c14, c15, c16, c17, c18, c19, c20, c21, c22, c23, c24, c25, c26, c27, c28, c29, c30, o31, wn31, lk1⟩ hf hd K hK
   dsimp only at hK
   have hd23 : L 23 = true := (by first | exact hd ⟨23, .data⟩ (by simp) rfl | exact hd ⟨23, .guard⟩ (by simp) rfl | exact hd ⟨23, .phase⟩ (by simp) rfl | exact hd ⟨23, .chain⟩ (by simp) rfl);have e23 := c23 hd23;rw [e23] at hK;have t0 := (hB.cell (p := ⟨gl, 0, none⟩) HG.out).trans m0;clear hd23;clear hd
   go_simp
   refine hK _ _ ?_ (fun h => by cases h)
   intro s hs
   cases hs
   exact ⟨hB, c0, c1, c2, c3, c4, c5, c6, c7, c8, c9, c10, c11, c12, c13, c14, c15, c16, c17, c18, c19, c20, c21, c22, c23, (fun _ => rfl), c25, c26, c27, c28, c29, c30, o31, wn31, lk1⟩
  case s25r1 =>
   rintro L u W ⟨hB, c0, c1, c2, c3, c4, c5, c6, c7, c8, c9, c10, c11, c12, c13, c14, c15, c16, c17, c18, c19, c20, c21, c22, c23, c24, c25, c26, c27, c28, c29, c30, o31, wn31, lk1⟩ hf hd K hK
   dsimp only at hK
   clear hd
   go_simp
   refine hK _ _ ?_ (fun h => by cases h)
   intro s hs
   cases hs
   exact ⟨hB, c0, c1, c2, c3, c4, c5, c6, c7, c8, c9, c10, c11, c12, c13, c14, c15, c16, c17, c18, c19, c20, c21, c22, c23, c24, (fun _ => rfl), c26, c27, c28, c29, c30, o31, wn31, lk1⟩
  case s26r1 =>
   rintro L u W ⟨hB, c0, c1, c2, c3, c4, c5, c6, c7, c8, c9, c10, c11, c12, c13, c14, c15, c16, c17, c18, c19, c20, c21, c22, c23, c24, c25, c26, c27, c28, c29, c30, o31, wn31, lk1⟩ hf hd K hK
   dsimp only at hK
   have hd25 : L 25 = true := (by first | exact hd ⟨25, .data⟩ (by simp) rfl | exact hd ⟨25, .guard⟩ (by simp) rfl | exact hd ⟨25, .phase⟩ (by simp) rfl | exact hd ⟨25, .chain⟩ (by simp) rfl);have e25 := c25 hd25;rw [e25] at hK;clear hd25;clear hd
   go_simp
   refine hK _ _ ?_ (fun h => by cases h)
   intro s hs
   cases hs
   exact ⟨hB, c0, c1, c2, c3, c4, c5, c6, c7, c8, c9, c10, c11, c12, c13, c14, c15, c16, c17, c18, c19, c20, c21, c22, c23, c24, c25, (fun _ => rfl), c27, c28, c29, c30, o31, wn31, lk1⟩
  case s27r1 =>
   rintro L u W ⟨hB, c0, c1, c2, c3, c4, c5, c6, c7, c8, c9, c10, c11, c12, c13, c14, c15, c16, c17, c18, c19, c20, c21, c22, c23, c24, c25, c26, c27, c28, c29, c30, o31, wn31, lk1⟩ hf hd K hK
   dsimp only at hK
   have hd26 : L 26 = true := (by first | exact hd ⟨26, .data⟩ (by simp) rfl | exact hd ⟨26, .guard⟩ (by simp) rfl | exact hd ⟨26, .phase⟩ (by simp) rfl | exact hd ⟨26, .chain⟩ (by simp) rfl);have e26 := c26 hd26;rw [e26] at hK;have t0 := lk1.cell (i := 6) rfl;clear hd26;clear hd
   go_simp
   refine hK _ _ ?_ (fun h => by cases h)
   intro s hs
   cases hs
   exact ⟨hB, c0, c1, c2, c3, c4, c5, c6, c7, c8, c9, c10, c11, c12, c13, c14, c15, c16, c17, c18, c19, c20, c21, c22, c23, c24, c25, c26, (fun _ => rfl), c28, c29, c30, o31, wn31, lk1⟩
  case s28r1 =>
   rintro L u W ⟨hB, c0, c1, c2, c3, c4, c5, c6, c7, c8, c9, c10, c11, c12, c13, c14, c15, c16, c17, c18, c19, c20, c21, c22, c23, c24, c25, c26, c27, c28, c29, c30, o31, wn31, lk1⟩ hf hd K hK
   dsimp only at hK
   have hd24 : L 24 = true := (by first | exact hd ⟨24, .data⟩ (by simp) rfl | exact hd ⟨24, .guard⟩ (by simp) rfl | exact hd ⟨24, .phase⟩ (by simp) rfl | exact hd ⟨24, .chain⟩ (by simp) rfl);have hd27 : L 27 = true := (by first | exact hd ⟨27, .data⟩ (by simp) rfl | exact hd ⟨27, .guard⟩ (by simp) rfl | exact hd ⟨27, .phase⟩ (by simp) rfl | exact hd ⟨27, .chain⟩ (by simp) rfl);have e24 := c24 hd24;rw [e24] at hK;have e27 := c27 hd27;rw [e27] at hK;clear hd24;clear hd27;clear hd
   go_simp
   refine hK _ _ ?_ (fun h => by cases h)
   intro s hs
   cases hs
   exact ⟨hB, c0, c1, c2, c3, c4, c5, c6, c7, c8, c9, c10, c11, c12, c13, c14, c15, c16, c17, c18, c19, c20, c21, c22, c23, c24, c25, c26, c27, (fun _ => rfl), c29, c30, o31, wn31, lk1⟩
  case s29r1 =>
   rintro L u W ⟨hB, c0, c1, c2, c3, c4, c5, c6, c7, c8, c9, c10, c11, c12, c13, c14, c15, c16, c17, c18, c19, c20, c21, c22, c23, c24, c25, c26, c27, c28, c29, c30, o31, wn31, lk1⟩ hf hd K hK
   dsimp only at hK
   have hd28 : L 28 = true := (by first | exact hd ⟨28, .data⟩ (by simp) rfl | exact hd ⟨28, .guard⟩ (by simp) rfl | exact hd ⟨28, .phase⟩ (by simp) rfl | exact hd ⟨28, .chain⟩ (by simp) rfl);have e28 := c28 hd28;rw [e28] at hK;have t0 := (hB.cell (p := ⟨b2, o2 + z * 3, none⟩) hbb.out).trans y0;have t1 := (hB.cell (p := ⟨b2, o2 + z * 3 + 1, none⟩) hbb.out).trans y1;have t2 := (hB.cell (p := ⟨b2, o2 + z * 3 + 2, none⟩) hbb.out).trans y2;clear hd28;clear hd
   go_simp
   refine hK _ _ ?_ (fun h => by cases h)
   intro s hs
   cases hs
   exact ⟨hB, c0, c1, c2, c3, c4, c5, c6, c7, c8, c9, c10, c11, c12, c13, c14, c15, c16, c17, c18, c19, c20, c21, c22, c23, c24, c25, c26, c27, c28, (fun _ => rfl), c30, o31, wn31, lk1⟩
  case s30r1 =>
   rintro L u W ⟨hB, c0, c1, c2, c3, c4, c5, c6, c7, c8, c9, c10, c11, c12, c13, c14, c15, c16, c17, c18, c19, c20, c21, c22, c23, c24, c25, c26, c27, c28, c29, c30, o31, wn31, lk1⟩ hf hd K hK
   dsimp only at hK
   have hd9 : L 9 = true := (by first | exact hd ⟨9, .data⟩ (by simp) rfl | exact hd ⟨9, .guard⟩ (by simp) rfl | exact hd ⟨9, .phase⟩ (by simp) rfl | exact hd ⟨9, .chain⟩ (by simp) rfl);have hd19 : L 19 = true := (by first | exact hd ⟨19, .data⟩ (by simp) rfl | exact hd ⟨19, .guard⟩ (by simp) rfl | exact hd ⟨19, .phase⟩ (by simp) rfl | exact hd ⟨19, .chain⟩ (by simp) rfl);have hd29 : L 29 = true := (by first | exact hd ⟨29, .data⟩ (by simp) rfl | exact hd ⟨29, .guard⟩ (by simp) rfl | exact hd ⟨29, .phase⟩ (by simp) rfl | exact hd ⟨29, .chain⟩ (by simp) rfl);have e9 := c9 hd9;rw [e9] at hK;have e19 := c19 hd19;rw [e19] at hK;have e29 := c29 hd29;rw [e29] at hK;clear hd9;clear hd19;clear hd29;clear hd
   go_simp
   refine hK _ _ ?_ (fun h => by cases h)
   intro s hs
   cases hs
   exact ⟨hB, c0, c1, c2, c3, c4, c5, c6, c7, c8, c9, c10, c11, c12, c13, c14, c15, c16, c17, c18, c19, c20, c21, c22, c23, c24, c25, c26, c27, c28, c29, (fun _ => rfl), o31, wn31, lk1⟩
  case s31r1 =>
   rintro L u W ⟨hB, c0, c1, c2, c3, c4, c5, c6, c7, c8, c9, c10, c11, c12, c13, c14, c15, c16, c17, c18, c19, c20, c21, c22, c23, c24, c25, c26, c27, c28, c29, c30, o31, wn31, lk1⟩ hf hd K hK
   dsimp only at hK
   have hd30 : L 30 = true := (by first | exact hd ⟨30, .data⟩ (by simp) rfl | exact hd ⟨30, .phase⟩ (by simp) rfl);have k3 := o31 hf;have e30 := c30 hd30;rw [e30] at hK;have t0 := k3.cell (i := 0) rfl;have f0 := k3.frozen 0;have t1 := k3.cell (i := 1) rfl;have f1 := k3.frozen 1;have t2 := k3.cell (i := 2) rfl;have f2 := k3.frozen 2;have t3 := k3.cell (i := 3) rfl;have f3 := k3.frozen 3;have t4 := k3.cell (i := 4) rfl;have f4 := k3.frozen 4;have t5 := k3.cell (i := 5) rfl;have f5 := k3.frozen 5;have t6 := k3.cell (i := 6) rfl;have f6 := k3.frozen 6;have t7 := k3.cell (i := 7) rfl;have f7 := k3.frozen 7;have t8 := k3.cell (i := 8) rfl;have f8 := k3.frozen 8;clear hd;have hd30' := Lib.hid hd30;clear hd30
   go_simp
   have hd30 := hd30'.out;have hl0 : Lok _ (w.heap.size) 58 #[.int .i64 p0, .int .i64 0, .int .i64 0, .int .i64 0, .int .i64 0, .int .i64 0, .int .i64 0, .int .i64 0, .int .i64 0] := k3.set (i := 0) (v := .int .i64 p0);have hl1 : Lok _ (w.heap.size) 58 #[.int .i64 p0, .int .i64 p1, .int .i64 0, .int .i64 0, .int .i64 0, .int .i64 0, .int .i64 0, .int .i64 0, .int .i64 0] := hl0.set (i := 1) (v := .int .i64 p1);have hl2 : Lok _ (w.heap.size) 58 #[.int .i64 p0, .int .i64 p1, .int .i64 p2, .int .i64 0, .int .i64 0, .int .i64 0, .int .i64 0, .int .i64 0, .int .i64 0] := hl1.set (i := 2) (v := .int .i64 p2);have hl3 : Lok _ (w.heap.size) 58 #[.int .i64 p0, .int .i64 p1, .int .i64 p2, .int .i64 p3, .int .i64 0, .int .i64 0, .int .i64 0, .int .i64 0, .int .i64 0] := hl2.set (i := 3) (v := .int .i64 p3);have hl4 : Lok _ (w.heap.size) 58 #[.int .i64 p0, .int .i64 p1, .int .i64 p2, .int .i64 p3, .int .i64 p4, .int .i64 0, .int .i64 0, .int .i64 0, .int .i64 0] := hl3.set (i := 4) (v := .int .i64 p4);have hl5 : Lok _ (w.heap.size) 58 #[.int .i64 p0, .int .i64 p1, .int .i64 p2, .int .i64 p3, .int .i64 p4, .int .i64 p5, .int .i64 0, .int .i64 0, .int .i64 0] := hl4.set (i := 5) (v := .int .i64 p5);have hl6 : Lok _ (w.heap.size) 58 #[.int .i64 p0, .int .i64 p1, .int .i64 p2, .int .i64 p3, .int .i64 p4, .int .i64 p5, .int .i64 p6, .int .i64 0, .int .i64 0] := hl5.set (i := 6) (v := .int .i64 p6);have hl7 : Lok _ (w.heap.size) 58 #[.int .i64 p0, .int .i64 p1, .int .i64 p2, .int .i64 p3, .int .i64 p4, .int .i64 p5, .int .i64 p6, .int .i64 p7, .int .i64 0] := hl6.set (i := 7) (v := .int .i64 p7);have hl8 : Lok _ (w.heap.size) 58 #[.int .i64 p0, .int .i64 p1, .int .i64 p2, .int .i64 p3, .int .i64 p4, .int .i64 p5, .int .i64 p6, .int .i64 p7, .int .i64 p8] := hl7.set (i := 8) (v := .int .i64 p8);have hlok := hl8
   refine hK undef _ (fun s h => by cases h) (fun _ => ?_)
   exact ⟨((((((((hB.setCell (by first | exact Nat.le_refl _ | assumption | (show _ ≤ _; omega) | (show ((w.heap.size)) ≤ (w.heap.size); omega)) _).setCell (by first | exact Nat.le_refl _ | assumption | (show _ ≤ _; omega) | (show ((w.heap.size)) ≤ (w.heap.size); omega)) _).setCell (by first | exact Nat.le_refl _ | assumption | (show _ ≤ _; omega) | (show ((w.heap.size)) ≤ (w.heap.size); omega)) _).setCell (by first | exact Nat.le_refl _ | assumption | (show _ ≤ _; omega) | (show ((w.heap.size)) ≤ (w.heap.size); omega)) _).setCell (by first | exact Nat.le_refl _ | assumption | (show _ ≤ _; omega) | (show ((w.heap.size)) ≤ (w.heap.size); omega)) _).setCell (by first | exact Nat.le_refl _ | assumption | (show _ ≤ _; omega) | (show ((w.heap.size)) ≤ (w.heap.size); omega)) _).setCell (by first | exact Nat.le_refl _ | assumption | (show _ ≤ _; omega) | (show ((w.heap.size)) ≤ (w.heap.size); omega)) _).setCell (by first | exact Nat.le_refl _ | assumption | (show _ ≤ _; omega) | (show ((w.heap.size)) ≤ (w.heap.size); omega)) _).setCell (by first | exact Nat.le_refl _ | assumption | (show _ ≤ _; omega) | (show ((w.heap.size)) ≤ (w.heap.size); omega)) _, c0, c1, c2, c3, c4, c5, c6, c7, c8, c9, c10, c11, c12, c13, c14, c15, c16, c17, c18, c19, c20, c21, c22, c23, c24, c25, c26, c27, c28, c29, (fun _ => rfl), (fun h => by cases h), (fun _ => hlok), (((((((((lk1.far (by first | assumption | omega)).far (by first | assumption | omega)).far (by first | assumption | omega)).far (by first | assumption | omega)).far (by first | assumption | omega)).far (by first | assumption | omega)).far (by first | assumption | omega)).far (by first | assumption | omega)).far (by first | assumption | omega))⟩
 case finr1 =>
  rintro L u W hL ⟨hB, c0, c1, c2, c3, c4, c5, c6, c7, c8, c9, c10, c11, c12, c13, c14, c15, c16, c17, c18, c19, c20, c21, c22, c23, c24, c25, c26, c27, c28, c29, c30, o31, wn31, lk1⟩
  have e0 := c0 (hL 0 (by decide));have e1 := c1 (hL 1 (by decide));have e2 := c2 (hL 2 (by decide));have e3 := c3 (hL 3 (by decide));have e4 := c4 (hL 4 (by decide));have e5 := c5 (hL 5 (by decide));have e6 := c6 (hL 6 (by decide));have e7 := c7 (hL 7 (by decide));have e8 := c8 (hL 8 (by decide));have e9 := c9 (hL 9 (by decide));have e10 := c10 (hL 10 (by decide));have e11 := c11 (hL 11 (by decide));have e12 := c12 (hL 12 (by decide));have e13 := c13 (hL 13 (by decide));have e14 := c14 (hL 14 (by decide));have e15 := c15 (hL 15 (by decide));have e16 := c16 (hL 16 (by decide));have e17 := c17 (hL 17 (by decide));have e18 := c18 (hL 18 (by decide));have e19 := c19 (hL 19 (by decide));have e20 := c20 (hL 20 (by decide));have e21 := c21 (hL 21 (by decide));have e22 := c22 (hL 22 (by decide));have e23 := c23 (hL 23 (by decide));have e24 := c24 (hL 24 (by decide));have e25 := c25 (hL 25 (by decide));have e26 := c26 (hL 26 (by decide));have e27 := c27 (hL 27 (by decide));have e28 := c28 (hL 28 (by decide));have e29 := c29 (hL 29 (by decide));have e30 := c30 (hL 30 (by decide));have hlok31 := wn31 (hL 31 (by decide));clear hL c0 c1 c2 c3 c4 c5 c6 c7 c8 c9 c10 c11 c12 c13 c14 c15 c16 c17 c18 c19 c20 c21 c22 c23 c24 c25 c26 c27 c28 c29 c30 o31 wn31
  try simp only [e0, e1, e2, e3, e4, e5, e6, e7, e8, e9, e10, e11, e12, e13, e14, e15, e16, e17, e18, e19, e20, e21, e22, e23, e24, e25, e26, e27, e28, e29, e30]
  clear e0 e1 e2 e3 e4 e5 e6 e7 e8 e9 e10 e11 e12 e13 e14 e15 e16 e17 e18 e19 e20 e21 e22 e23 e24 e25 e26 e27 e28 e29 e30;have u0 := hlok31.cell (i := 0) rfl;have u1 := hlok31.cell (i := 1) rfl;have u2 := hlok31.cell (i := 2) rfl;have u3 := hlok31.cell (i := 3) rfl;have u4 := hlok31.cell (i := 4) rfl;have u5 := hlok31.cell (i := 5) rfl;have u6 := hlok31.cell (i := 6) rfl;have u7 := hlok31.cell (i := 7) rfl;have u8 := hlok31.cell (i := 8) rfl
  go_wp2_with fail
  exact bodyPost_ret (v := .agg #[.int .i64 p0, .int .i64 p1, .int .i64 p2, .int .i64 p3, .int .i64 p4, .int .i64 p5, .int .i64 p6, .int .i64 p7, .int .i64 p8]) (by simp [results, Tryz.results49, go_sem, u0, u1, u2, u3, u4, u5, u6, u7, u8]) rfl ⟨rfl, HB.out.trans hB⟩
end Go.Proofs.YtcnbbanpnoigdaaGreat
