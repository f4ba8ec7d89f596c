/-
  The reference limewashref11: Closest. (gen/NrH.py)
-/
import Derived.Test.YtllamakemgogaaaNrF
import Derived.Test.YtllamakemgogaaaNrD
import Derived.Test.YtllamakemgogaaaGaG
import Derived.Test.YtllamakemgogaaaFsB
namespace Go.Proofs.Ytllamakemgogaaa
open Go.RowKit

set_option maxRecDepth 100000 in
set_option maxHeartbeats 8000000 in
theorem rclosest_out (x y a1 a2 b1 b2 c1 c2 : Int) (hp : s2 x y = true) (ha : rT a1 a2 b1 b2 c1 c2 = true) (hr : r1 a1 a2 b1 b2 c1 c2 x y < 0) (w : World) :
    Calls Try.prog 11 #[.agg #[.int .i64 x, .int .i64 y], .agg #[.int .i64 a1, .int .i64 a2, .int .i64 b1, .int .i64 b2, .int .i64 c1, .int .i64 c2]] w fun e' w' => e' = .returned (.tuple #[.agg #[.int .i64 (nrS x y a1 a2 b1 b2 c1 c2 fX), .int .i64 (nrS x y a1 a2 b1 b2 c1 c2 fY)], .agg #[.int .i64 (nrS x y a1 a2 b1 b2 c1 c2 fN), .int .i64 (nrS x y a1 a2 b1 b2 c1 c2 fD)], .int .i64 0]) ∧ Below w.heap.size w w' := by
  have HB := Lib.hid (Below.refl w.heap.size w)
  have IN := Lib.hid (fun W => rin_any x y a1 a2 b1 b2 c1 c2 W)
  have hb := in_bd a1 a2 b1 b2 c1 c2 x y
  rw [hp, ha, show iV true true (r1 a1 a2 b1 b2 c1 c2 x y) = r1 a1 a2 b1 b2 c1 c2 x y + 1 from rfl, show iE true true = 0 from rfl, show r1 a1 a2 b1 b2 c1 c2 x y + 1 = 0 by omega] at IN
  obtain ⟨h1, h2, h3⟩ := small_of3 (rT_small ha)
  have F0 := Lib.hid (fun W => redge_any x y a1 a2 b1 b2 true (by rw [hp, h1, h2]; rfl) W)
  have F1 := Lib.hid (fun W => redge_any x y b1 b2 c1 c2 true (by rw [hp, h2, h3]; rfl) W)
  have F2 := Lib.hid (fun W => redge_any x y c1 c2 a1 a2 true (by rw [hp, h3, h1]; rfl) W)
  simp only [vF_yes, show rE true = 0 from rfl] at F0 F1 F2
  unfold nrS
  clear hp ha h1 h2 h3 hr hb
  generalize fX x y a1 a2 b1 b2 = u0 at *
  generalize fY x y a1 a2 b1 b2 = v0 at *
  generalize fK x y a1 a2 b1 b2 = k0 at *
  generalize fN x y a1 a2 b1 b2 = n0 at *
  generalize fD x y a1 a2 b1 b2 = d0 at *
  generalize fX x y b1 b2 c1 c2 = u1 at *
  generalize fY x y b1 b2 c1 c2 = v1 at *
  generalize fK x y b1 b2 c1 c2 = k1 at *
  generalize fN x y b1 b2 c1 c2 = n1 at *
  generalize fD x y b1 b2 c1 c2 = d1 at *
  generalize fX x y c1 c2 a1 a2 = u2 at *
  generalize fY x y c1 c2 a1 a2 = v2 at *
  generalize fK x y c1 c2 a1 a2 = k2 at *
  generalize fN x y c1 c2 a1 a2 = n2 at *
  generalize fD x y c1 c2 a1 a2 = d2 at *
  obtain ⟨RU, EU⟩ : ∃ r, sel n0 d0 n1 d1 n2 d2 u0 u1 u2 = r := ⟨_, rfl⟩
  rw [EU]
  obtain ⟨RV, EV⟩ : ∃ r, sel n0 d0 n1 d1 n2 d2 v0 v1 v2 = r := ⟨_, rfl⟩
  rw [EV]
  obtain ⟨RN, EN⟩ : ∃ r, sel n0 d0 n1 d1 n2 d2 n0 n1 n2 = r := ⟨_, rfl⟩
  rw [EN]
  obtain ⟨RD, ED⟩ : ∃ r, sel n0 d0 n1 d1 n2 d2 d0 d1 d2 = r := ⟨_, rfl⟩
  rw [ED]
  unfold sel at EU EV EN ED
  obtain ⟨nn, hnn⟩ : ∃ r, l2 (cmpF n1 d1 n0 d0) n0 n1 = r := ⟨_, rfl⟩
  obtain ⟨nd, hnd⟩ : ∃ r, l2 (cmpF n1 d1 n0 d0) d0 d1 = r := ⟨_, rfl⟩
  obtain ⟨nu, hnu⟩ : ∃ r, l2 (cmpF n1 d1 n0 d0) u0 u1 = r := ⟨_, rfl⟩
  obtain ⟨nv, hnv⟩ : ∃ r, l2 (cmpF n1 d1 n0 d0) v0 v1 = r := ⟨_, rfl⟩
  rw [hnn, hnd] at EU EV EN ED
  rw [hnu] at EU
  rw [hnv] at EV
  have E1 := Lib.hid (And.intro hnu (And.intro hnv (And.intro hnn hnd)))
  have E2 := Lib.hid (And.intro EU (And.intro EV (And.intro EN ED)))
  have C1 := Lib.hid (fun W => rcmp_any n1 d1 n0 d0 W)
  have C2 := Lib.hid (fun W => rcmp_any n2 d2 nn nd W)
  clear hnn hnd hnu hnv EU EV EN ED
  generalize cmpF n1 d1 n0 d0 = e1 at *
  generalize cmpF n2 d2 nn nd = e2 at *
  go_enter Try.func11, Try.ntmps11
  go_upto_region 1 with fail
  have hbp := below_new1 w (.cells #[.int .i64 x, .int .i64 y] 23)
  have zp : (w.alloc (.cells #[.int .i64 x, .int .i64 y] 23)).heap.size = w.heap.size + 1 := by simp
  have HB := Lib.hid hbp
  have kp := Lib.hid (Lok.new w 23 #[.int .i64 x, .int .i64 y])
  clear hbp
  generalize w.alloc (.cells #[.int .i64 x, .int .i64 y] 23) = Vp at *
  have hbt := below_new1 Vp (.cells #[.int .i64 a1, .int .i64 a2, .int .i64 b1, .int .i64 b2, .int .i64 c1, .int .i64 c2] 24)
  replace kp := Lib.hid (kp.out.keep hbt)
  have zt : (Vp.alloc (.cells #[.int .i64 a1, .int .i64 a2, .int .i64 b1, .int .i64 b2, .int .i64 c1, .int .i64 c2] 24)).heap.size = Vp.heap.size + 1 := by simp
  replace HB := Lib.hid (HB.out.trans (hbt.mono HB.out.size))
  have kt := Lib.hid (Lok.new Vp 24 #[.int .i64 a1, .int .i64 a2, .int .i64 b1, .int .i64 b2, .int .i64 c1, .int .i64 c2])
  clear hbt
  generalize Vp.alloc (.cells #[.int .i64 a1, .int .i64 a2, .int .i64 b1, .int .i64 b2, .int .i64 c1, .int .i64 c2] 24) = Vt at *
  rw [zp] at kt zt
  have hbr := below_new1 Vt (.cells #[.int .i64 0, .int .i64 0] 23)
  replace kp := Lib.hid (kp.out.keep hbr)
  replace kt := Lib.hid (kt.out.keep hbr)
  have zr : (Vt.alloc (.cells #[.int .i64 0, .int .i64 0] 23)).heap.size = Vt.heap.size + 1 := by simp
  replace HB := Lib.hid (HB.out.trans (hbr.mono HB.out.size))
  have kr := Lib.hid (Lok.new Vt 23 #[.int .i64 0, .int .i64 0])
  clear hbr
  generalize Vt.alloc (.cells #[.int .i64 0, .int .i64 0] 23) = Vr at *
  rw [zt] at kr zr
  have hbs := below_new1 Vr (.cells #[.int .i64 0, .int .i64 0] 29)
  replace kp := Lib.hid (kp.out.keep hbs)
  replace kt := Lib.hid (kt.out.keep hbs)
  replace kr := Lib.hid (kr.out.keep hbs)
  have zs : (Vr.alloc (.cells #[.int .i64 0, .int .i64 0] 29)).heap.size = Vr.heap.size + 1 := by simp
  replace HB := Lib.hid (HB.out.trans (hbs.mono HB.out.size))
  have ks := Lib.hid (Lok.new Vr 29 #[.int .i64 0, .int .i64 0])
  clear hbs
  generalize Vr.alloc (.cells #[.int .i64 0, .int .i64 0] 29) = Vs at *
  rw [zr] at ks
  clear zp zt zr zs
  have p0 := kp.out.cell (i := 0) rfl
  have p1 := kp.out.cell (i := 1) rfl
  have t0 := kt.out.cell (i := 0) rfl
  have t1 := kt.out.cell (i := 1) rfl
  have t2 := kt.out.cell (i := 2) rfl
  have t3 := kt.out.cell (i := 3) rfl
  have t4 := kt.out.cell (i := 4) rfl
  have t5 := kt.out.cell (i := 5) rfl
  go_wp2_with fail
  clear p0 p1 t0 t1 t2 t3 t4 t5
  (((with_reducible refine (IN.out _).mono ?_); rintro e w1 ⟨rfl, hb1⟩); replace HB := Lib.hid (HB.out.trans (hb1.mono HB.out.size)); replace kp := Lib.hid (kp.out.keep hb1); replace kt := Lib.hid (kt.out.keep hb1); replace kr := Lib.hid (kr.out.keep hb1); replace ks := Lib.hid (ks.out.keep hb1); clear hb1)
  have p0 := kp.out.cell (i := 0) rfl
  have p1 := kp.out.cell (i := 1) rfl
  have t0 := kt.out.cell (i := 0) rfl
  have t1 := kt.out.cell (i := 1) rfl
  have t2 := kt.out.cell (i := 2) rfl
  have t3 := kt.out.cell (i := 3) rfl
  have t4 := kt.out.cell (i := 4) rfl
  have t5 := kt.out.cell (i := 5) rfl
  go_wp2_with fail
  clear p0 p1 t0 t1 t2 t3 t4 t5
  (((with_reducible refine (F0.out _).mono ?_); rintro e w2 ⟨rfl, hb2⟩); replace HB := Lib.hid (HB.out.trans (hb2.mono HB.out.size)); replace kp := Lib.hid (kp.out.keep hb2); replace kt := Lib.hid (kt.out.keep hb2); replace kr := Lib.hid (kr.out.keep hb2); replace ks := Lib.hid (ks.out.keep hb2); clear hb2)
  go_upto_region 7 with fail
  have hlt := ks.out.lt
  have hbm := below_new1 w2 (.cells #[.int .i64 u0, .int .i64 v0] 23)
  replace kp := Lib.hid (kp.out.keep hbm)
  replace kt := Lib.hid (kt.out.keep hbm)
  replace kr := Lib.hid (kr.out.keep hbm)
  replace ks := Lib.hid (ks.out.keep hbm)
  have zm : (w2.alloc (.cells #[.int .i64 u0, .int .i64 v0] 23)).heap.size = w2.heap.size + 1 := by simp
  replace HB := Lib.hid (HB.out.trans (hbm.mono HB.out.size))
  have km := Lib.hid (Lok.new w2 23 #[.int .i64 u0, .int .i64 v0])
  clear hbm
  generalize w2.alloc (.cells #[.int .i64 u0, .int .i64 v0] 23) = Vm at *
  have hbq := below_new1 Vm (.cells #[.int .i64 n0, .int .i64 d0] 29)
  replace kp := Lib.hid (kp.out.keep hbq)
  replace kt := Lib.hid (kt.out.keep hbq)
  replace kr := Lib.hid (kr.out.keep hbq)
  replace ks := Lib.hid (ks.out.keep hbq)
  replace km := Lib.hid (km.out.keep hbq)
  have zq : (Vm.alloc (.cells #[.int .i64 n0, .int .i64 d0] 29)).heap.size = Vm.heap.size + 1 := by simp
  replace HB := Lib.hid (HB.out.trans (hbq.mono HB.out.size))
  have kq := Lib.hid (Lok.new Vm 29 #[.int .i64 n0, .int .i64 d0])
  clear hbq
  generalize Vm.alloc (.cells #[.int .i64 n0, .int .i64 d0] 29) = Vq at *
  rw [zm] at kq
  clear zm zq
  generalize w2.heap.size = gm at *
  clear F0
  go_wp2_with fail
  have H0 := Lib.hid HB.out
  have bs := HB.out.size
  have km0 := km
  have kq0 := kq
  clear km kq
  go_loopw [13] (fun x wr => ∃ (j : Nat) (U V N D : Int), x = .int .i64 j ∧ ((j = 1 ∧ U = u0 ∧ V = v0 ∧ N = n0 ∧ D = d0) ∨ (j = 2 ∧ U = nu ∧ V = nv ∧ N = nn ∧ D = nd) ∨ (j = 3 ∧ U = RU ∧ V = RV ∧ N = RN ∧ D = RD)) ∧ Below gm Vq wr ∧ Lok wr gm 23 #[.int .i64 U, .int .i64 V] ∧ Lok wr (gm + 1) 29 #[.int .i64 N, .int .i64 D]) (fun x _ => 3 - (intOf x).toNat)
  case atStart => exact ⟨1, u0, v0, n0, d0, rfl, .inl ⟨rfl, rfl, rfl, rfl, rfl⟩, (Below.refl Vq.heap.size Vq).mono (by have := km0.out.lt; omega), km0.out, kq0.out⟩
  case round =>
    obtain ⟨j, U, V, N, D, rfl, hj, hB0, hm, hq⟩ := hrel
    replace kp := Lib.hid (kp.out.keepB hB0 (by omega))
    replace kt := Lib.hid (kt.out.keepB hB0 (by omega))
    replace kr := Lib.hid (kr.out.keepB hB0 (by omega))
    replace ks := Lib.hid (ks.out.keepB hB0 (by omega))
    have km := Lib.hid hm
    have kq := Lib.hid hq
    have H1 := Lib.hid hB0
    clear hm hq km0 kq0 hB0 HB
    rcases hj with ⟨rfl, rfl, rfl, rfl, rfl⟩ | ⟨rfl, rfl, rfl, rfl, rfl⟩ | ⟨rfl, rfl, rfl, rfl, rfl⟩
    · go_upto_region 10 with fail
      refine wp_region_rel (by kernel_rfl) [48, 49, 50, 51, 52, 53, 54, 55, 56, 57, 58, 59, 60, 61, 62, 14, 15, 16, 17] ?Fr1 ?hFr1
        (fun L u W => Below wr.heap.size wr W ∧ (L 0 = true → u 49 = .agg #[.int .i64 x, .int .i64 y]) ∧ (L 1 = true → u 50 = .int .i64 1) ∧ (L 2 = true → u 51 = .pointer (some ⟨w.heap.size + 1, 2, none⟩)) ∧ (L 3 = true → u 52 = .agg #[.int .i64 b1, .int .i64 b2]) ∧ (L 4 = true → u 53 = .int .i64 1) ∧ (L 5 = true → u 54 = .int .i64 2) ∧ (L 6 = true → u 55 = .int .i64 2) ∧ (L 7 = true → u 56 = .pointer (some ⟨w.heap.size + 1, 4, none⟩)) ∧ (L 8 = true → u 57 = .agg #[.int .i64 c1, .int .i64 c2]) ∧ (L 9 = true → u 58 = .tuple #[.agg #[.int .i64 u1, .int .i64 v1], .int .i64 k1, .agg #[.int .i64 n1, .int .i64 d1], .int .i64 0]) ∧ (L 10 = true → u 48 = .tuple #[.agg #[.int .i64 u1, .int .i64 v1], .int .i64 k1, .agg #[.int .i64 n1, .int .i64 d1], .int .i64 0]) ∧ (L 11 = true → u 59 = .agg #[.int .i64 u1, .int .i64 v1]) ∧ (L 12 = true → u 60 = .int .i64 k1) ∧ (L 13 = true → u 61 = .agg #[.int .i64 n1, .int .i64 d1]) ∧ (L 14 = true → u 62 = .int .i64 0) ∧ (L 18 = true → u 15 = .int .i64 k1) ∧ (L 20 = true → u 17 = .int .i64 0) ∧ (L 15 = true → ∃ (g : Nat) (x15_0 x15_1 : Value), u 14 = .pointer (some ⟨g, 0, none⟩) ∧ wr.heap.size ≤ g ∧ Lok W g 23 #[x15_0, x15_1] ∧ (L 17 = true → x15_0 = .int .i64 u1 ∧ x15_1 = .int .i64 v1)) ∧ (L 17 = true → L 15 = true) ∧ (L 16 = true → ∃ (g : Nat) (x16_0 x16_1 : Value), u 16 = .pointer (some ⟨g, 0, none⟩) ∧ wr.heap.size ≤ g ∧ Lok W g 29 #[x16_0, x16_1] ∧ (L 19 = true → x16_0 = .int .i64 n1 ∧ x16_1 = .int .i64 d1)) ∧ (L 19 = true → L 16 = true) ∧ (L 15 = true → L 16 = true → u 14 ≠ u 16)) (by kernel_rfl) (by kernel_rfl) 21 rfl ?h0r1 ?stepr1 ?finr1
      case hFr1 => intro u; simp only [putAll, Act.put, List.setIfInBounds_toArray, List.set]; exact rfl
      case h0r1 => intro L u hL; exact ⟨(Below.refl _ _).drew, (fun h => by simp [hL] at h), (fun h => by simp [hL] at h), (fun h => by simp [hL] at h), (fun h => by simp [hL] at h), (fun h => by simp [hL] at h), (fun h => by simp [hL] at h), (fun h => by simp [hL] at h), (fun h => by simp [hL] at h), (fun h => by simp [hL] at h), (fun h => by simp [hL] at h), (fun h => by simp [hL] at h), (fun h => by simp [hL] at h), (fun h => by simp [hL] at h), (fun h => by simp [hL] at h), (fun h => by simp [hL] at h), (fun h => by simp [hL] at h), (fun h => by simp [hL] at h), (fun h => by simp [hL] at h), (fun h => by simp [hL] at h), (fun h => by simp [hL] at h), (fun h => by simp [hL] at h), (fun h => by simp [hL] at h)⟩
      case stepr1 =>
        refine ops_all (ops_cons ?s0r1 (ops_cons ?s1r1 (ops_cons ?s2r1 (ops_cons ?s3r1 (ops_cons ?s4r1 (ops_cons ?s5r1 (ops_cons ?s6r1 (ops_cons ?s7r1 (ops_cons ?s8r1 (ops_cons ?s9r1 (ops_cons ?s10r1 (ops_cons ?s11r1 (ops_cons ?s12r1 (ops_cons ?s13r1 (ops_cons ?s14r1 (ops_cons ?s15r1 (ops_cons ?s16r1 (ops_cons ?s17r1 (ops_cons ?s18r1 (ops_cons ?s19r1 (ops_cons ?s20r1 (ops_nil))))))))))))))))))))))
        case s0r1 =>
          rintro L u W ⟨hB, c0, c1, c2, c3, c4, c5, c6, c7, c8, c9, c10, c11, c12, c13, c14, c18, c20, c15, d17, c16, d19, y15_16⟩ hf hd K hK
          dsimp only at hK
          have t0 := (kp.out.keep hB).cell (i := 0) rfl
          have t1 := (kp.out.keep hB).cell (i := 1) rfl
          clear hd
          go_simp
          refine hK _ _ ?_ (fun h => by cases h)
          intro s hs
          cases hs
          exact ⟨hB, (fun _ => rfl), c1, c2, c3, c4, c5, c6, c7, c8, c9, c10, c11, c12, c13, c14, c18, c20, c15, d17, c16, d19, y15_16⟩
        case s1r1 =>
          rintro L u W ⟨hB, c0, c1, c2, c3, c4, c5, c6, c7, c8, c9, c10, c11, c12, c13, c14, c18, c20, c15, d17, c16, d19, y15_16⟩ hf hd K hK
          dsimp only at hK
          clear hd
          go_simp
          refine hK _ _ ?_ (fun h => by cases h)
          intro s hs
          cases hs
          exact ⟨hB, c0, (fun _ => rfl), c2, c3, c4, c5, c6, c7, c8, c9, c10, c11, c12, c13, c14, c18, c20, c15, d17, c16, d19, y15_16⟩
        case s2r1 =>
          rintro L u W ⟨hB, c0, c1, c2, c3, c4, c5, c6, c7, c8, c9, c10, c11, c12, c13, c14, c18, c20, c15, d17, c16, d19, y15_16⟩ hf hd K hK
          dsimp only at hK
          have hd1 : L 1 = true := (by first | (refine hd ⟨1, .data⟩ ?_ rfl; simp; done) | (refine hd ⟨1, .guard⟩ ?_ rfl; simp; done) | (refine hd ⟨1, .phase⟩ ?_ rfl; simp; done) | (refine hd ⟨1, .chain⟩ ?_ rfl; simp; done))
          have e1 := c1 hd1
          rw [e1] at hK
          clear hd1
          clear hd
          go_simp
          refine hK _ _ ?_ (fun h => by cases h)
          intro s hs
          cases hs
          exact ⟨hB, c0, c1, (fun _ => rfl), c3, c4, c5, c6, c7, c8, c9, c10, c11, c12, c13, c14, c18, c20, c15, d17, c16, d19, y15_16⟩
        case s3r1 =>
          rintro L u W ⟨hB, c0, c1, c2, c3, c4, c5, c6, c7, c8, c9, c10, c11, c12, c13, c14, c18, c20, c15, d17, c16, d19, y15_16⟩ hf hd K hK
          dsimp only at hK
          have hd2 : L 2 = true := (by first | (refine hd ⟨2, .data⟩ ?_ rfl; simp; done) | (refine hd ⟨2, .guard⟩ ?_ rfl; simp; done) | (refine hd ⟨2, .phase⟩ ?_ rfl; simp; done) | (refine hd ⟨2, .chain⟩ ?_ rfl; simp; done))
          have e2 := c2 hd2
          rw [e2] at hK
          have t0 := (kt.out.keep hB).cell (i := 2) rfl
          have t1 := (kt.out.keep hB).cell (i := 2 + 1) rfl
          clear hd2
          clear hd
          go_simp
          refine hK _ _ ?_ (fun h => by cases h)
          intro s hs
          cases hs
          exact ⟨hB, c0, c1, c2, (fun _ => rfl), c4, c5, c6, c7, c8, c9, c10, c11, c12, c13, c14, c18, c20, c15, d17, c16, d19, y15_16⟩
        case s4r1 =>
          rintro L u W ⟨hB, c0, c1, c2, c3, c4, c5, c6, c7, c8, c9, c10, c11, c12, c13, c14, c18, c20, c15, d17, c16, d19, y15_16⟩ hf hd K hK
          dsimp only at hK
          clear hd
          go_simp
          refine hK _ _ ?_ (fun h => by cases h)
          intro s hs
          cases hs
          exact ⟨hB, c0, c1, c2, c3, (fun _ => rfl), c5, c6, c7, c8, c9, c10, c11, c12, c13, c14, c18, c20, c15, d17, c16, d19, y15_16⟩
        case s5r1 =>
          rintro L u W ⟨hB, c0, c1, c2, c3, c4, c5, c6, c7, c8, c9, c10, c11, c12, c13, c14, c18, c20, c15, d17, c16, d19, y15_16⟩ hf hd K hK
          dsimp only at hK
          have hd4 : L 4 = true := (by first | (refine hd ⟨4, .data⟩ ?_ rfl; simp; done) | (refine hd ⟨4, .guard⟩ ?_ rfl; simp; done) | (refine hd ⟨4, .phase⟩ ?_ rfl; simp; done) | (refine hd ⟨4, .chain⟩ ?_ rfl; simp; done))
          have e4 := c4 hd4
          rw [e4] at hK
          clear hd4
          clear hd
          go_simp
          refine hK _ _ ?_ (fun h => by cases h)
          intro s hs
          cases hs
          exact ⟨hB, c0, c1, c2, c3, c4, (fun _ => rfl), c6, c7, c8, c9, c10, c11, c12, c13, c14, c18, c20, c15, d17, c16, d19, y15_16⟩
        case s6r1 =>
          rintro L u W ⟨hB, c0, c1, c2, c3, c4, c5, c6, c7, c8, c9, c10, c11, c12, c13, c14, c18, c20, c15, d17, c16, d19, y15_16⟩ hf hd K hK
          dsimp only at hK
          have hd5 : L 5 = true := (by first | (refine hd ⟨5, .data⟩ ?_ rfl; simp; done) | (refine hd ⟨5, .guard⟩ ?_ rfl; simp; done) | (refine hd ⟨5, .phase⟩ ?_ rfl; simp; done) | (refine hd ⟨5, .chain⟩ ?_ rfl; simp; done))
          have e5 := c5 hd5
          rw [e5] at hK
          clear hd5
          clear hd
          go_simp
          refine hK _ _ ?_ (fun h => by cases h)
          intro s hs
          cases hs
          exact ⟨hB, c0, c1, c2, c3, c4, c5, (fun _ => rfl), c7, c8, c9, c10, c11, c12, c13, c14, c18, c20, c15, d17, c16, d19, y15_16⟩
        case s7r1 =>
          rintro L u W ⟨hB, c0, c1, c2, c3, c4, c5, c6, c7, c8, c9, c10, c11, c12, c13, c14, c18, c20, c15, d17, c16, d19, y15_16⟩ hf hd K hK
          dsimp only at hK
          have hd6 : L 6 = true := (by first | (refine hd ⟨6, .data⟩ ?_ rfl; simp; done) | (refine hd ⟨6, .guard⟩ ?_ rfl; simp; done) | (refine hd ⟨6, .phase⟩ ?_ rfl; simp; done) | (refine hd ⟨6, .chain⟩ ?_ rfl; simp; done))
          have e6 := c6 hd6
          rw [e6] at hK
          clear hd6
          clear hd
          go_simp
          refine hK _ _ ?_ (fun h => by cases h)
          intro s hs
          cases hs
          exact ⟨hB, c0, c1, c2, c3, c4, c5, c6, (fun _ => rfl), c8, c9, c10, c11, c12, c13, c14, c18, c20, c15, d17, c16, d19, y15_16⟩
        case s8r1 =>
          rintro L u W ⟨hB, c0, c1, c2, c3, c4, c5, c6, c7, c8, c9, c10, c11, c12, c13, c14, c18, c20, c15, d17, c16, d19, y15_16⟩ hf hd K hK
          dsimp only at hK
          have hd7 : L 7 = true := (by first | (refine hd ⟨7, .data⟩ ?_ rfl; simp; done) | (refine hd ⟨7, .guard⟩ ?_ rfl; simp; done) | (refine hd ⟨7, .phase⟩ ?_ rfl; simp; done) | (refine hd ⟨7, .chain⟩ ?_ rfl; simp; done))
          have e7 := c7 hd7
          rw [e7] at hK
          have t0 := (kt.out.keep hB).cell (i := 4) rfl
          have t1 := (kt.out.keep hB).cell (i := 4 + 1) rfl
          clear hd7
          clear hd
          go_simp
          refine hK _ _ ?_ (fun h => by cases h)
          intro s hs
          cases hs
          exact ⟨hB, c0, c1, c2, c3, c4, c5, c6, c7, (fun _ => rfl), c9, c10, c11, c12, c13, c14, c18, c20, c15, d17, c16, d19, y15_16⟩
        case s9r1 =>
          rintro L u W ⟨hB, c0, c1, c2, c3, c4, c5, c6, c7, c8, c9, c10, c11, c12, c13, c14, c18, c20, c15, d17, c16, d19, y15_16⟩ hf hd K hK
          dsimp only at hK
          have hd0 : L 0 = true := (by first | (refine hd ⟨0, .data⟩ ?_ rfl; simp; done) | (refine hd ⟨0, .guard⟩ ?_ rfl; simp; done) | (refine hd ⟨0, .phase⟩ ?_ rfl; simp; done) | (refine hd ⟨0, .chain⟩ ?_ rfl; simp; done))
          have hd3 : L 3 = true := (by first | (refine hd ⟨3, .data⟩ ?_ rfl; simp; done) | (refine hd ⟨3, .guard⟩ ?_ rfl; simp; done) | (refine hd ⟨3, .phase⟩ ?_ rfl; simp; done) | (refine hd ⟨3, .chain⟩ ?_ rfl; simp; done))
          have hd8 : L 8 = true := (by first | (refine hd ⟨8, .data⟩ ?_ rfl; simp; done) | (refine hd ⟨8, .guard⟩ ?_ rfl; simp; done) | (refine hd ⟨8, .phase⟩ ?_ rfl; simp; done) | (refine hd ⟨8, .chain⟩ ?_ rfl; simp; done))
          have e0 := c0 hd0
          rw [e0] at hK
          have e3 := c3 hd3
          rw [e3] at hK
          have e8 := c8 hd8
          rw [e8] at hK
          clear hd0
          clear hd3
          clear hd8
          clear hd
          go_simp
          go_wp2_with (go_at_call 9; ((with_reducible refine (F1.out _).mono ?_); rintro e w5 ⟨rfl, hb⟩))
          refine hK _ _ ?_ (fun h => by cases h)
          intro s hs
          cases hs
          exact ⟨hB.trans (hb.mono hB.size), c0, c1, c2, c3, c4, c5, c6, c7, c8, (fun _ => rfl), c10, c11, c12, c13, c14, c18, c20, (fun h => by obtain ⟨g, x15_0, x15_1, k1, k2, k3, k4⟩ := c15 h; exact ⟨g, x15_0, x15_1, k1, k2, k3.keep hb, k4⟩), d17, (fun h => by obtain ⟨g, x16_0, x16_1, k1, k2, k3, k4⟩ := c16 h; exact ⟨g, x16_0, x16_1, k1, k2, k3.keep hb, k4⟩), d19, y15_16⟩
        case s10r1 =>
          rintro L u W ⟨hB, c0, c1, c2, c3, c4, c5, c6, c7, c8, c9, c10, c11, c12, c13, c14, c18, c20, c15, d17, c16, d19, y15_16⟩ hf hd K hK
          dsimp only at hK
          have hd9 : L 9 = true := (by first | (refine hd ⟨9, .data⟩ ?_ rfl; simp; done) | (refine hd ⟨9, .guard⟩ ?_ rfl; simp; done) | (refine hd ⟨9, .phase⟩ ?_ rfl; simp; done) | (refine hd ⟨9, .chain⟩ ?_ rfl; simp; done))
          have e9 := c9 hd9
          rw [e9] at hK
          clear hd9
          clear hd
          go_simp
          refine hK _ _ ?_ (fun h => by cases h)
          intro s hs
          cases hs
          exact ⟨hB, c0, c1, c2, c3, c4, c5, c6, c7, c8, c9, (fun _ => rfl), c11, c12, c13, c14, c18, c20, c15, d17, c16, d19, y15_16⟩
        case s11r1 =>
          rintro L u W ⟨hB, c0, c1, c2, c3, c4, c5, c6, c7, c8, c9, c10, c11, c12, c13, c14, c18, c20, c15, d17, c16, d19, y15_16⟩ hf hd K hK
          dsimp only at hK
          have hd10 : L 10 = true := (by first | (refine hd ⟨10, .data⟩ ?_ rfl; simp; done) | (refine hd ⟨10, .guard⟩ ?_ rfl; simp; done) | (refine hd ⟨10, .phase⟩ ?_ rfl; simp; done) | (refine hd ⟨10, .chain⟩ ?_ rfl; simp; done))
          have e10 := c10 hd10
          rw [e10] at hK
          clear hd10
          clear hd
          go_simp
          refine hK _ _ ?_ (fun h => by cases h)
          intro s hs
          cases hs
          exact ⟨hB, c0, c1, c2, c3, c4, c5, c6, c7, c8, c9, c10, (fun _ => rfl), c12, c13, c14, c18, c20, c15, d17, c16, d19, y15_16⟩
        case s12r1 =>
          rintro L u W ⟨hB, c0, c1, c2, c3, c4, c5, c6, c7, c8, c9, c10, c11, c12, c13, c14, c18, c20, c15, d17, c16, d19, y15_16⟩ hf hd K hK
          dsimp only at hK
          have hd10 : L 10 = true := (by first | (refine hd ⟨10, .data⟩ ?_ rfl; simp; done) | (refine hd ⟨10, .guard⟩ ?_ rfl; simp; done) | (refine hd ⟨10, .phase⟩ ?_ rfl; simp; done) | (refine hd ⟨10, .chain⟩ ?_ rfl; simp; done))
          have e10 := c10 hd10
          rw [e10] at hK
          clear hd10
          clear hd
          go_simp
          refine hK _ _ ?_ (fun h => by cases h)
          intro s hs
          cases hs
          exact ⟨hB, c0, c1, c2, c3, c4, c5, c6, c7, c8, c9, c10, c11, (fun _ => rfl), c13, c14, c18, c20, c15, d17, c16, d19, y15_16⟩
        case s13r1 =>
          rintro L u W ⟨hB, c0, c1, c2, c3, c4, c5, c6, c7, c8, c9, c10, c11, c12, c13, c14, c18, c20, c15, d17, c16, d19, y15_16⟩ hf hd K hK
          dsimp only at hK
          have hd10 : L 10 = true := (by first | (refine hd ⟨10, .data⟩ ?_ rfl; simp; done) | (refine hd ⟨10, .guard⟩ ?_ rfl; simp; done) | (refine hd ⟨10, .phase⟩ ?_ rfl; simp; done) | (refine hd ⟨10, .chain⟩ ?_ rfl; simp; done))
          have e10 := c10 hd10
          rw [e10] at hK
          clear hd10
          clear hd
          go_simp
          refine hK _ _ ?_ (fun h => by cases h)
          intro s hs
          cases hs
          exact ⟨hB, c0, c1, c2, c3, c4, c5, c6, c7, c8, c9, c10, c11, c12, (fun _ => rfl), c14, c18, c20, c15, d17, c16, d19, y15_16⟩
        case s14r1 =>
          rintro L u W ⟨hB, c0, c1, c2, c3, c4, c5, c6, c7, c8, c9, c10, c11, c12, c13, c14, c18, c20, c15, d17, c16, d19, y15_16⟩ hf hd K hK
          dsimp only at hK
          have hd10 : L 10 = true := (by first | (refine hd ⟨10, .data⟩ ?_ rfl; simp; done) | (refine hd ⟨10, .guard⟩ ?_ rfl; simp; done) | (refine hd ⟨10, .phase⟩ ?_ rfl; simp; done) | (refine hd ⟨10, .chain⟩ ?_ rfl; simp; done))
          have e10 := c10 hd10
          rw [e10] at hK
          clear hd10
          clear hd
          go_simp
          refine hK _ _ ?_ (fun h => by cases h)
          intro s hs
          cases hs
          exact ⟨hB, c0, c1, c2, c3, c4, c5, c6, c7, c8, c9, c10, c11, c12, c13, (fun _ => rfl), c18, c20, c15, d17, c16, d19, y15_16⟩
        case s15r1 =>
          rintro L u W ⟨hB, c0, c1, c2, c3, c4, c5, c6, c7, c8, c9, c10, c11, c12, c13, c14, c18, c20, c15, d17, c16, d19, y15_16⟩ hf hd K hK
          dsimp only at hK
          go_simp
          have hb : Below W.heap.size W (W.alloc (.cells #[.int .i64 0, .int .i64 0] 23)) := (Below.refl _ W).alloc (Nat.le_refl _) _
          refine hK _ _ ?_ (fun h => by cases h)
          intro s hs
          cases hs
          exact ⟨hB.trans (hb.mono hB.size), c0, c1, c2, c3, c4, c5, c6, c7, c8, c9, c10, c11, c12, c13, c14, c18, c20, (fun _ => ⟨_, _, _, rfl, hB.size, Lok.new _ _ _, fun h => absurd (d17 h) (by rw [hf]; decide)⟩), (fun _ => rfl), (fun h => by obtain ⟨g, x16_0, x16_1, k1, k2, k3, k4⟩ := c16 h; exact ⟨g, x16_0, x16_1, k1, k2, k3.keep hb, k4⟩), d19, (fun _ h => by obtain ⟨g, x16_0, x16_1, k1, k2, k3, k4⟩ := c16 h; exact ptr_new k1 k3)⟩
        case s16r1 =>
          rintro L u W ⟨hB, c0, c1, c2, c3, c4, c5, c6, c7, c8, c9, c10, c11, c12, c13, c14, c18, c20, c15, d17, c16, d19, y15_16⟩ hf hd K hK
          dsimp only at hK
          go_simp
          have hb : Below W.heap.size W (W.alloc (.cells #[.int .i64 0, .int .i64 0] 29)) := (Below.refl _ W).alloc (Nat.le_refl _) _
          refine hK _ _ ?_ (fun h => by cases h)
          intro s hs
          cases hs
          exact ⟨hB.trans (hb.mono hB.size), c0, c1, c2, c3, c4, c5, c6, c7, c8, c9, c10, c11, c12, c13, c14, c18, c20, (fun h => by obtain ⟨g, x15_0, x15_1, k1, k2, k3, k4⟩ := c15 h; exact ⟨g, x15_0, x15_1, k1, k2, k3.keep hb, k4⟩), d17, (fun _ => ⟨_, _, _, rfl, hB.size, Lok.new _ _ _, fun h => absurd (d19 h) (by rw [hf]; decide)⟩), (fun _ => rfl), (fun h _ => by obtain ⟨g, x15_0, x15_1, k1, k2, k3, k4⟩ := c15 h; exact ptr_new2 k1 k3)⟩
        case s17r1 =>
          rintro L u W ⟨hB, c0, c1, c2, c3, c4, c5, c6, c7, c8, c9, c10, c11, c12, c13, c14, c18, c20, c15, d17, c16, d19, y15_16⟩ hf hd K hK
          dsimp only at hK
          have hd15 : L 15 = true := hd ⟨15, .data⟩ (by simp) rfl
          have hd11 : L 11 = true := (by first | (refine hd ⟨11, .data⟩ ?_ rfl; simp; done) | (refine hd ⟨11, .guard⟩ ?_ rfl; simp; done) | (refine hd ⟨11, .phase⟩ ?_ rfl; simp; done) | (refine hd ⟨11, .chain⟩ ?_ rfl; simp; done))
          obtain ⟨g, x15_0, x15_1, e15, k2, k3, k4⟩ := c15 hd15
          rw [e15] at hK
          have e11 := c11 hd11
          rw [e11] at hK
          have t0 := k3.cell (i := 0) rfl
          have f0 := k3.frozen 0
          have t1 := k3.cell (i := 1) rfl
          have f1 := k3.frozen 1
          have HH := Lib.hid (And.intro trivial trivial)
          clear hd
          have hd15' := Lib.hid hd15
          clear hd15
          have hd11' := Lib.hid hd11
          clear hd11
          go_simp
          have hd15 := hd15'.out
          have hd11 := hd11'.out
          have hlok := (k3.set (i := 0) (v := .int .i64 u1)).set (i := 1) (v := .int .i64 v1)
          refine hK undef _ (fun s h => by cases h) (fun _ => ?_)
          exact ⟨(hB.setCell k2 _).setCell k2 _, c0, c1, c2, c3, c4, c5, c6, c7, c8, c9, c10, (fun _ => rfl), c12, c13, c14, c18, c20, (fun _ => ⟨g, _, _, rfl, k2, hlok, fun _ => ⟨rfl, rfl⟩⟩), (fun _ => hd15), (fun h => by obtain ⟨g2, x16_0, x16_1, m1, m2, m3, m4⟩ := c16 h; have hne := ptr_apart (y15_16 hd15 h) e15 m1; exact ⟨g2, x16_0, x16_1, m1, m2, (m3.far hne).far hne, m4⟩), d19, (fun h1 h2 => by first | exact y15_16 h1 h2 | (rw [← e15]; exact y15_16 h1 h2))⟩
        case s18r1 =>
          rintro L u W ⟨hB, c0, c1, c2, c3, c4, c5, c6, c7, c8, c9, c10, c11, c12, c13, c14, c18, c20, c15, d17, c16, d19, y15_16⟩ hf hd K hK
          dsimp only at hK
          have hd12 : L 12 = true := (by first | (refine hd ⟨12, .data⟩ ?_ rfl; simp; done) | (refine hd ⟨12, .guard⟩ ?_ rfl; simp; done) | (refine hd ⟨12, .phase⟩ ?_ rfl; simp; done) | (refine hd ⟨12, .chain⟩ ?_ rfl; simp; done))
          have e12 := c12 hd12
          rw [e12] at hK
          clear hd12
          clear hd
          go_simp
          refine hK _ _ ?_ (fun h => by cases h)
          intro s hs
          cases hs
          exact ⟨hB, c0, c1, c2, c3, c4, c5, c6, c7, c8, c9, c10, c11, c12, c13, c14, (fun _ => rfl), c20, c15, d17, c16, d19, y15_16⟩
        case s19r1 =>
          rintro L u W ⟨hB, c0, c1, c2, c3, c4, c5, c6, c7, c8, c9, c10, c11, c12, c13, c14, c18, c20, c15, d17, c16, d19, y15_16⟩ hf hd K hK
          dsimp only at hK
          have hd16 : L 16 = true := hd ⟨16, .data⟩ (by simp) rfl
          have hd13 : L 13 = true := (by first | (refine hd ⟨13, .data⟩ ?_ rfl; simp; done) | (refine hd ⟨13, .guard⟩ ?_ rfl; simp; done) | (refine hd ⟨13, .phase⟩ ?_ rfl; simp; done) | (refine hd ⟨13, .chain⟩ ?_ rfl; simp; done))
          obtain ⟨g, x16_0, x16_1, e16, k2, k3, k4⟩ := c16 hd16
          rw [e16] at hK
          have e13 := c13 hd13
          rw [e13] at hK
          have t0 := k3.cell (i := 0) rfl
          have f0 := k3.frozen 0
          have t1 := k3.cell (i := 1) rfl
          have f1 := k3.frozen 1
          have HH := Lib.hid (And.intro trivial trivial)
          clear hd
          have hd16' := Lib.hid hd16
          clear hd16
          have hd13' := Lib.hid hd13
          clear hd13
          go_simp
          have hd16 := hd16'.out
          have hd13 := hd13'.out
          have hlok := (k3.set (i := 0) (v := .int .i64 n1)).set (i := 1) (v := .int .i64 d1)
          refine hK undef _ (fun s h => by cases h) (fun _ => ?_)
          exact ⟨(hB.setCell k2 _).setCell k2 _, c0, c1, c2, c3, c4, c5, c6, c7, c8, c9, c10, c11, c12, (fun _ => rfl), c14, c18, c20, (fun h => by obtain ⟨g2, x15_0, x15_1, m1, m2, m3, m4⟩ := c15 h; have hne := ptr_apart2 (y15_16 h hd16) m1 e16; exact ⟨g2, x15_0, x15_1, m1, m2, (m3.far hne).far hne, m4⟩), d17, (fun _ => ⟨g, _, _, rfl, k2, hlok, fun _ => ⟨rfl, rfl⟩⟩), (fun _ => hd16), (fun h1 h2 => by first | exact y15_16 h1 h2 | (rw [← e16]; exact y15_16 h1 h2))⟩
        case s20r1 =>
          rintro L u W ⟨hB, c0, c1, c2, c3, c4, c5, c6, c7, c8, c9, c10, c11, c12, c13, c14, c18, c20, c15, d17, c16, d19, y15_16⟩ hf hd K hK
          dsimp only at hK
          have hd14 : L 14 = true := (by first | (refine hd ⟨14, .data⟩ ?_ rfl; simp; done) | (refine hd ⟨14, .guard⟩ ?_ rfl; simp; done) | (refine hd ⟨14, .phase⟩ ?_ rfl; simp; done) | (refine hd ⟨14, .chain⟩ ?_ rfl; simp; done))
          have e14 := c14 hd14
          rw [e14] at hK
          clear hd14
          clear hd
          go_simp
          refine hK _ _ ?_ (fun h => by cases h)
          intro s hs
          cases hs
          exact ⟨hB, c0, c1, c2, c3, c4, c5, c6, c7, c8, c9, c10, c11, c12, c13, c14, c18, (fun _ => rfl), c15, d17, c16, d19, y15_16⟩
      case finr1 =>
        rintro L u W hL ⟨hB, c0, c1, c2, c3, c4, c5, c6, c7, c8, c9, c10, c11, c12, c13, c14, c18, c20, c15, d17, c16, d19, y15_16⟩
        have e0 := c0 (hL 0 (by decide))
        have e1 := c1 (hL 1 (by decide))
        have e2 := c2 (hL 2 (by decide))
        have e3 := c3 (hL 3 (by decide))
        have e4 := c4 (hL 4 (by decide))
        have e5 := c5 (hL 5 (by decide))
        have e6 := c6 (hL 6 (by decide))
        have e7 := c7 (hL 7 (by decide))
        have e8 := c8 (hL 8 (by decide))
        have e9 := c9 (hL 9 (by decide))
        have e10 := c10 (hL 10 (by decide))
        have e11 := c11 (hL 11 (by decide))
        have e12 := c12 (hL 12 (by decide))
        have e13 := c13 (hL 13 (by decide))
        have e14 := c14 (hL 14 (by decide))
        have e18 := c18 (hL 18 (by decide))
        have e20 := c20 (hL 20 (by decide))
        obtain ⟨g15, x15_0, x15_1, e15, hg15, hlok15, hst15⟩ := c15 (hL 15 (by decide))
        obtain ⟨rfl, rfl⟩ := hst15 (hL 17 (by decide))
        clear hst15
        obtain ⟨g16, x16_0, x16_1, e16, hg16, hlok16, hst16⟩ := c16 (hL 16 (by decide))
        obtain ⟨rfl, rfl⟩ := hst16 (hL 19 (by decide))
        clear hst16
        clear hL c0 c1 c2 c3 c4 c5 c6 c7 c8 c9 c10 c11 c12 c13 c14 c18 c20 c15 d17 c16 d19 y15_16
        try simp only [e0, e1, e2, e3, e4, e5, e6, e7, e8, e9, e10, e11, e12, e13, e14, e18, e20, e15, e16]
        clear e0 e1 e2 e3 e4 e5 e6 e7 e8 e9 e10 e11 e12 e13 e14 e18 e20 e15 e16
        have l0 := km.out.lt
        have l1 := kq.out.lt
        have kp := Lib.hid (kp.out.keep hB)
        have kt := Lib.hid (kt.out.keep hB)
        have km := Lib.hid (km.out.keep hB)
        have kq := Lib.hid (kq.out.keep hB)
        have H2 := Lib.hid (H1.out.trans (hB.mono (by omega)))
        have ka := Lib.hid hlok15
        have kc := Lib.hid hlok16
        have la := hlok15.lt
        have lc := hlok16.lt
        have fb := hB.size
        clear H1 hlok15 hlok16 hB
        have c0 := kc.out.cell (i := 0) rfl
        have c1' := kc.out.cell (i := 1) rfl
        have q0 := kq.out.cell (i := 0) rfl
        have q1 := kq.out.cell (i := 1) rfl
        go_wp2_with fail
        clear c0 c1' q0 q1
        (with_reducible refine (C1.out _).mono ?_)
        rintro e w9 ⟨rfl, hb9⟩
        replace H2 := Lib.hid (H2.out.trans (hb9.mono (by have := H2.out.size; omega)))
        have H3 := hb9
        replace kp := Lib.hid (kp.out.keep H3)
        replace km := Lib.hid (km.out.keep H3)
        replace kq := Lib.hid (kq.out.keep H3)
        replace ka := Lib.hid (ka.out.keep H3)
        replace kc := Lib.hid (kc.out.keep H3)
        clear H3 hb9
        by_cases hc : e1 < 0
        · have EE := E1.out
          simp only [l2_yes _ _ hc] at EE
          obtain ⟨rfl, rfl, rfl, rfl⟩ := EE
          have a0 := ka.out.cell (i := 0) rfl
          have a1' := ka.out.cell (i := 1) rfl
          have c0 := kc.out.cell (i := 0) rfl
          have c1' := kc.out.cell (i := 1) rfl
          have m0 := km.out.cell (i := 0) rfl
          have m1 := km.out.cell (i := 1) rfl
          have q0 := kq.out.cell (i := 0) rfl
          have q1 := kq.out.cell (i := 1) rfl
          have fm0 := km.out.frozen 0
          have fm1 := km.out.frozen 1
          have fq0 := kq.out.frozen 0
          have fq1 := kq.out.frozen 1
          have x1 : g15 ≠ gm := by omega
          have x2 : g15 ≠ gm + 1 := by omega
          have x3 : g16 ≠ gm := by omega
          have x4 : g16 ≠ gm + 1 := by omega
          go_wp2
          go_roundw
          case rel => exact ⟨2, _, _, _, _, rfl, .inr (.inl ⟨rfl, rfl, rfl, rfl, rfl⟩), (((H2.out.setCell (Nat.le_refl _) _).setCell (Nat.le_refl _) _).setCell (Nat.le_succ _) _).setCell (Nat.le_succ _) _, (((km.out.set (i := 0)).set (i := 1)).far (by omega)).far (by omega), (((kq.out.far (by omega)).far (by omega)).set (i := 0)).set (i := 1)⟩
          case measure => simp [intOf]
        · have EE := E1.out
          simp only [l2_no _ _ hc] at EE
          obtain ⟨rfl, rfl, rfl, rfl⟩ := EE
          go_wp2
          go_roundw
          case rel => exact ⟨2, _, _, _, _, rfl, .inr (.inl ⟨rfl, rfl, rfl, rfl, rfl⟩), H2.out, km.out, kq.out⟩
          case measure => simp [intOf]
    · go_upto_region 10 with fail
      refine wp_region_rel (by kernel_rfl) [48, 49, 50, 51, 52, 53, 54, 55, 56, 57, 58, 59, 60, 61, 62, 14, 15, 16, 17] ?Fr2 ?hFr2
        (fun L u W => Below wr.heap.size wr W ∧ (L 0 = true → u 49 = .agg #[.int .i64 x, .int .i64 y]) ∧ (L 1 = true → u 50 = .int .i64 2) ∧ (L 2 = true → u 51 = .pointer (some ⟨w.heap.size + 1, 4, none⟩)) ∧ (L 3 = true → u 52 = .agg #[.int .i64 c1, .int .i64 c2]) ∧ (L 4 = true → u 53 = .int .i64 2) ∧ (L 5 = true → u 54 = .int .i64 3) ∧ (L 6 = true → u 55 = .int .i64 0) ∧ (L 7 = true → u 56 = .pointer (some ⟨w.heap.size + 1, 0, none⟩)) ∧ (L 8 = true → u 57 = .agg #[.int .i64 a1, .int .i64 a2]) ∧ (L 9 = true → u 58 = .tuple #[.agg #[.int .i64 u2, .int .i64 v2], .int .i64 k2, .agg #[.int .i64 n2, .int .i64 d2], .int .i64 0]) ∧ (L 10 = true → u 48 = .tuple #[.agg #[.int .i64 u2, .int .i64 v2], .int .i64 k2, .agg #[.int .i64 n2, .int .i64 d2], .int .i64 0]) ∧ (L 11 = true → u 59 = .agg #[.int .i64 u2, .int .i64 v2]) ∧ (L 12 = true → u 60 = .int .i64 k2) ∧ (L 13 = true → u 61 = .agg #[.int .i64 n2, .int .i64 d2]) ∧ (L 14 = true → u 62 = .int .i64 0) ∧ (L 18 = true → u 15 = .int .i64 k2) ∧ (L 20 = true → u 17 = .int .i64 0) ∧ (L 15 = true → ∃ (g : Nat) (x15_0 x15_1 : Value), u 14 = .pointer (some ⟨g, 0, none⟩) ∧ wr.heap.size ≤ g ∧ Lok W g 23 #[x15_0, x15_1] ∧ (L 17 = true → x15_0 = .int .i64 u2 ∧ x15_1 = .int .i64 v2)) ∧ (L 17 = true → L 15 = true) ∧ (L 16 = true → ∃ (g : Nat) (x16_0 x16_1 : Value), u 16 = .pointer (some ⟨g, 0, none⟩) ∧ wr.heap.size ≤ g ∧ Lok W g 29 #[x16_0, x16_1] ∧ (L 19 = true → x16_0 = .int .i64 n2 ∧ x16_1 = .int .i64 d2)) ∧ (L 19 = true → L 16 = true) ∧ (L 15 = true → L 16 = true → u 14 ≠ u 16)) (by kernel_rfl) (by kernel_rfl) 21 rfl ?h0r2 ?stepr2 ?finr2
      case hFr2 => intro u; simp only [putAll, Act.put, List.setIfInBounds_toArray, List.set]; exact rfl
      case h0r2 => intro L u hL; exact ⟨(Below.refl _ _).drew, (fun h => by simp [hL] at h), (fun h => by simp [hL] at h), (fun h => by simp [hL] at h), (fun h => by simp [hL] at h), (fun h => by simp [hL] at h), (fun h => by simp [hL] at h), (fun h => by simp [hL] at h), (fun h => by simp [hL] at h), (fun h => by simp [hL] at h), (fun h => by simp [hL] at h), (fun h => by simp [hL] at h), (fun h => by simp [hL] at h), (fun h => by simp [hL] at h), (fun h => by simp [hL] at h), (fun h => by simp [hL] at h), (fun h => by simp [hL] at h), (fun h => by simp [hL] at h), (fun h => by simp [hL] at h), (fun h => by simp [hL] at h), (fun h => by simp [hL] at h), (fun h => by simp [hL] at h), (fun h => by simp [hL] at h)⟩
      case stepr2 =>
        refine ops_all (ops_cons ?s0r2 (ops_cons ?s1r2 (ops_cons ?s2r2 (ops_cons ?s3r2 (ops_cons ?s4r2 (ops_cons ?s5r2 (ops_cons ?s6r2 (ops_cons ?s7r2 (ops_cons ?s8r2 (ops_cons ?s9r2 (ops_cons ?s10r2 (ops_cons ?s11r2 (ops_cons ?s12r2 (ops_cons ?s13r2 (ops_cons ?s14r2 (ops_cons ?s15r2 (ops_cons ?s16r2 (ops_cons ?s17r2 (ops_cons ?s18r2 (ops_cons ?s19r2 (ops_cons ?s20r2 (ops_nil))))))))))))))))))))))
        case s0r2 =>
          rintro L u W ⟨hB, c0, c1, c2, c3, c4, c5, c6, c7, c8, c9, c10, c11, c12, c13, c14, c18, c20, c15, d17, c16, d19, y15_16⟩ hf hd K hK
          dsimp only at hK
          have t0 := (kp.out.keep hB).cell (i := 0) rfl
          have t1 := (kp.out.keep hB).cell (i := 1) rfl
          clear hd
          go_simp
          refine hK _ _ ?_ (fun h => by cases h)
          intro s hs
          cases hs
          exact ⟨hB, (fun _ => rfl), c1, c2, c3, c4, c5, c6, c7, c8, c9, c10, c11, c12, c13, c14, c18, c20, c15, d17, c16, d19, y15_16⟩
        case s1r2 =>
          rintro L u W ⟨hB, c0, c1, c2, c3, c4, c5, c6, c7, c8, c9, c10, c11, c12, c13, c14, c18, c20, c15, d17, c16, d19, y15_16⟩ hf hd K hK
          dsimp only at hK
          clear hd
          go_simp
          refine hK _ _ ?_ (fun h => by cases h)
          intro s hs
          cases hs
          exact ⟨hB, c0, (fun _ => rfl), c2, c3, c4, c5, c6, c7, c8, c9, c10, c11, c12, c13, c14, c18, c20, c15, d17, c16, d19, y15_16⟩
        case s2r2 =>
          rintro L u W ⟨hB, c0, c1, c2, c3, c4, c5, c6, c7, c8, c9, c10, c11, c12, c13, c14, c18, c20, c15, d17, c16, d19, y15_16⟩ hf hd K hK
          dsimp only at hK
          have hd1 : L 1 = true := (by first | (refine hd ⟨1, .data⟩ ?_ rfl; simp; done) | (refine hd ⟨1, .guard⟩ ?_ rfl; simp; done) | (refine hd ⟨1, .phase⟩ ?_ rfl; simp; done) | (refine hd ⟨1, .chain⟩ ?_ rfl; simp; done))
          have e1 := c1 hd1
          rw [e1] at hK
          clear hd1
          clear hd
          go_simp
          refine hK _ _ ?_ (fun h => by cases h)
          intro s hs
          cases hs
          exact ⟨hB, c0, c1, (fun _ => rfl), c3, c4, c5, c6, c7, c8, c9, c10, c11, c12, c13, c14, c18, c20, c15, d17, c16, d19, y15_16⟩
        case s3r2 =>
          rintro L u W ⟨hB, c0, c1, c2, c3, c4, c5, c6, c7, c8, c9, c10, c11, c12, c13, c14, c18, c20, c15, d17, c16, d19, y15_16⟩ hf hd K hK
          dsimp only at hK
          have hd2 : L 2 = true := (by first | (refine hd ⟨2, .data⟩ ?_ rfl; simp; done) | (refine hd ⟨2, .guard⟩ ?_ rfl; simp; done) | (refine hd ⟨2, .phase⟩ ?_ rfl; simp; done) | (refine hd ⟨2, .chain⟩ ?_ rfl; simp; done))
          have e2 := c2 hd2
          rw [e2] at hK
          have t0 := (kt.out.keep hB).cell (i := 4) rfl
          have t1 := (kt.out.keep hB).cell (i := 4 + 1) rfl
          clear hd2
          clear hd
          go_simp
          refine hK _ _ ?_ (fun h => by cases h)
          intro s hs
          cases hs
          exact ⟨hB, c0, c1, c2, (fun _ => rfl), c4, c5, c6, c7, c8, c9, c10, c11, c12, c13, c14, c18, c20, c15, d17, c16, d19, y15_16⟩
        case s4r2 =>
          rintro L u W ⟨hB, c0, c1, c2, c3, c4, c5, c6, c7, c8, c9, c10, c11, c12, c13, c14, c18, c20, c15, d17, c16, d19, y15_16⟩ hf hd K hK
          dsimp only at hK
          clear hd
          go_simp
          refine hK _ _ ?_ (fun h => by cases h)
          intro s hs
          cases hs
          exact ⟨hB, c0, c1, c2, c3, (fun _ => rfl), c5, c6, c7, c8, c9, c10, c11, c12, c13, c14, c18, c20, c15, d17, c16, d19, y15_16⟩
        case s5r2 =>
          rintro L u W ⟨hB, c0, c1, c2, c3, c4, c5, c6, c7, c8, c9, c10, c11, c12, c13, c14, c18, c20, c15, d17, c16, d19, y15_16⟩ hf hd K hK
          dsimp only at hK
          have hd4 : L 4 = true := (by first | (refine hd ⟨4, .data⟩ ?_ rfl; simp; done) | (refine hd ⟨4, .guard⟩ ?_ rfl; simp; done) | (refine hd ⟨4, .phase⟩ ?_ rfl; simp; done) | (refine hd ⟨4, .chain⟩ ?_ rfl; simp; done))
          have e4 := c4 hd4
          rw [e4] at hK
          clear hd4
          clear hd
          go_simp
          refine hK _ _ ?_ (fun h => by cases h)
          intro s hs
          cases hs
          exact ⟨hB, c0, c1, c2, c3, c4, (fun _ => rfl), c6, c7, c8, c9, c10, c11, c12, c13, c14, c18, c20, c15, d17, c16, d19, y15_16⟩
        case s6r2 =>
          rintro L u W ⟨hB, c0, c1, c2, c3, c4, c5, c6, c7, c8, c9, c10, c11, c12, c13, c14, c18, c20, c15, d17, c16, d19, y15_16⟩ hf hd K hK
          dsimp only at hK
          have hd5 : L 5 = true := (by first | (refine hd ⟨5, .data⟩ ?_ rfl; simp; done) | (refine hd ⟨5, .guard⟩ ?_ rfl; simp; done) | (refine hd ⟨5, .phase⟩ ?_ rfl; simp; done) | (refine hd ⟨5, .chain⟩ ?_ rfl; simp; done))
          have e5 := c5 hd5
          rw [e5] at hK
          clear hd5
          clear hd
          go_simp
          refine hK _ _ ?_ (fun h => by cases h)
          intro s hs
          cases hs
          exact ⟨hB, c0, c1, c2, c3, c4, c5, (fun _ => rfl), c7, c8, c9, c10, c11, c12, c13, c14, c18, c20, c15, d17, c16, d19, y15_16⟩
        case s7r2 =>
          rintro L u W ⟨hB, c0, c1, c2, c3, c4, c5, c6, c7, c8, c9, c10, c11, c12, c13, c14, c18, c20, c15, d17, c16, d19, y15_16⟩ hf hd K hK
          dsimp only at hK
          have hd6 : L 6 = true := (by first | (refine hd ⟨6, .data⟩ ?_ rfl; simp; done) | (refine hd ⟨6, .guard⟩ ?_ rfl; simp; done) | (refine hd ⟨6, .phase⟩ ?_ rfl; simp; done) | (refine hd ⟨6, .chain⟩ ?_ rfl; simp; done))
          have e6 := c6 hd6
          rw [e6] at hK
          clear hd6
          clear hd
          go_simp
          refine hK _ _ ?_ (fun h => by cases h)
          intro s hs
          cases hs
          exact ⟨hB, c0, c1, c2, c3, c4, c5, c6, (fun _ => rfl), c8, c9, c10, c11, c12, c13, c14, c18, c20, c15, d17, c16, d19, y15_16⟩
        case s8r2 =>
          rintro L u W ⟨hB, c0, c1, c2, c3, c4, c5, c6, c7, c8, c9, c10, c11, c12, c13, c14, c18, c20, c15, d17, c16, d19, y15_16⟩ hf hd K hK
          dsimp only at hK
          have hd7 : L 7 = true := (by first | (refine hd ⟨7, .data⟩ ?_ rfl; simp; done) | (refine hd ⟨7, .guard⟩ ?_ rfl; simp; done) | (refine hd ⟨7, .phase⟩ ?_ rfl; simp; done) | (refine hd ⟨7, .chain⟩ ?_ rfl; simp; done))
          have e7 := c7 hd7
          rw [e7] at hK
          have t0 := (kt.out.keep hB).cell (i := 0) rfl
          have t1 := (kt.out.keep hB).cell (i := 0 + 1) rfl
          clear hd7
          clear hd
          go_simp
          refine hK _ _ ?_ (fun h => by cases h)
          intro s hs
          cases hs
          exact ⟨hB, c0, c1, c2, c3, c4, c5, c6, c7, (fun _ => rfl), c9, c10, c11, c12, c13, c14, c18, c20, c15, d17, c16, d19, y15_16⟩
        case s9r2 =>
          rintro L u W ⟨hB, c0, c1, c2, c3, c4, c5, c6, c7, c8, c9, c10, c11, c12, c13, c14, c18, c20, c15, d17, c16, d19, y15_16⟩ hf hd K hK
          dsimp only at hK
          have hd0 : L 0 = true := (by first | (refine hd ⟨0, .data⟩ ?_ rfl; simp; done) | (refine hd ⟨0, .guard⟩ ?_ rfl; simp; done) | (refine hd ⟨0, .phase⟩ ?_ rfl; simp; done) | (refine hd ⟨0, .chain⟩ ?_ rfl; simp; done))
          have hd3 : L 3 = true := (by first | (refine hd ⟨3, .data⟩ ?_ rfl; simp; done) | (refine hd ⟨3, .guard⟩ ?_ rfl; simp; done) | (refine hd ⟨3, .phase⟩ ?_ rfl; simp; done) | (refine hd ⟨3, .chain⟩ ?_ rfl; simp; done))
          have hd8 : L 8 = true := (by first | (refine hd ⟨8, .data⟩ ?_ rfl; simp; done) | (refine hd ⟨8, .guard⟩ ?_ rfl; simp; done) | (refine hd ⟨8, .phase⟩ ?_ rfl; simp; done) | (refine hd ⟨8, .chain⟩ ?_ rfl; simp; done))
          have e0 := c0 hd0
          rw [e0] at hK
          have e3 := c3 hd3
          rw [e3] at hK
          have e8 := c8 hd8
          rw [e8] at hK
          clear hd0
          clear hd3
          clear hd8
          clear hd
          go_simp
          go_wp2_with (go_at_call 9; ((with_reducible refine (F2.out _).mono ?_); rintro e w5 ⟨rfl, hb⟩))
          refine hK _ _ ?_ (fun h => by cases h)
          intro s hs
          cases hs
          exact ⟨hB.trans (hb.mono hB.size), c0, c1, c2, c3, c4, c5, c6, c7, c8, (fun _ => rfl), c10, c11, c12, c13, c14, c18, c20, (fun h => by obtain ⟨g, x15_0, x15_1, k1, k2, k3, k4⟩ := c15 h; exact ⟨g, x15_0, x15_1, k1, k2, k3.keep hb, k4⟩), d17, (fun h => by obtain ⟨g, x16_0, x16_1, k1, k2, k3, k4⟩ := c16 h; exact ⟨g, x16_0, x16_1, k1, k2, k3.keep hb, k4⟩), d19, y15_16⟩
        case s10r2 =>
          rintro L u W ⟨hB, c0, c1, c2, c3, c4, c5, c6, c7, c8, c9, c10, c11, c12, c13, c14, c18, c20, c15, d17, c16, d19, y15_16⟩ hf hd K hK
          dsimp only at hK
          have hd9 : L 9 = true := (by first | (refine hd ⟨9, .data⟩ ?_ rfl; simp; done) | (refine hd ⟨9, .guard⟩ ?_ rfl; simp; done) | (refine hd ⟨9, .phase⟩ ?_ rfl; simp; done) | (refine hd ⟨9, .chain⟩ ?_ rfl; simp; done))
          have e9 := c9 hd9
          rw [e9] at hK
          clear hd9
          clear hd
          go_simp
          refine hK _ _ ?_ (fun h => by cases h)
          intro s hs
          cases hs
          exact ⟨hB, c0, c1, c2, c3, c4, c5, c6, c7, c8, c9, (fun _ => rfl), c11, c12, c13, c14, c18, c20, c15, d17, c16, d19, y15_16⟩
        case s11r2 =>
          rintro L u W ⟨hB, c0, c1, c2, c3, c4, c5, c6, c7, c8, c9, c10, c11, c12, c13, c14, c18, c20, c15, d17, c16, d19, y15_16⟩ hf hd K hK
          dsimp only at hK
          have hd10 : L 10 = true := (by first | (refine hd ⟨10, .data⟩ ?_ rfl; simp; done) | (refine hd ⟨10, .guard⟩ ?_ rfl; simp; done) | (refine hd ⟨10, .phase⟩ ?_ rfl; simp; done) | (refine hd ⟨10, .chain⟩ ?_ rfl; simp; done))
          have e10 := c10 hd10
          rw [e10] at hK
          clear hd10
          clear hd
          go_simp
          refine hK _ _ ?_ (fun h => by cases h)
          intro s hs
          cases hs
          exact ⟨hB, c0, c1, c2, c3, c4, c5, c6, c7, c8, c9, c10, (fun _ => rfl), c12, c13, c14, c18, c20, c15, d17, c16, d19, y15_16⟩
        case s12r2 =>
          rintro L u W ⟨hB, c0, c1, c2, c3, c4, c5, c6, c7, c8, c9, c10, c11, c12, c13, c14, c18, c20, c15, d17, c16, d19, y15_16⟩ hf hd K hK
          dsimp only at hK
          have hd10 : L 10 = true := (by first | (refine hd ⟨10, .data⟩ ?_ rfl; simp; done) | (refine hd ⟨10, .guard⟩ ?_ rfl; simp; done) | (refine hd ⟨10, .phase⟩ ?_ rfl; simp; done) | (refine hd ⟨10, .chain⟩ ?_ rfl; simp; done))
          have e10 := c10 hd10
          rw [e10] at hK
          clear hd10
          clear hd
          go_simp
          refine hK _ _ ?_ (fun h => by cases h)
          intro s hs
          cases hs
          exact ⟨hB, c0, c1, c2, c3, c4, c5, c6, c7, c8, c9, c10, c11, (fun _ => rfl), c13, c14, c18, c20, c15, d17, c16, d19, y15_16⟩
        case s13r2 =>
          rintro L u W ⟨hB, c0, c1, c2, c3, c4, c5, c6, c7, c8, c9, c10, c11, c12, c13, c14, c18, c20, c15, d17, c16, d19, y15_16⟩ hf hd K hK
          dsimp only at hK
          have hd10 : L 10 = true := (by first | (refine hd ⟨10, .data⟩ ?_ rfl; simp; done) | (refine hd ⟨10, .guard⟩ ?_ rfl; simp; done) | (refine hd ⟨10, .phase⟩ ?_ rfl; simp; done) | (refine hd ⟨10, .chain⟩ ?_ rfl; simp; done))
          have e10 := c10 hd10
          rw [e10] at hK
          clear hd10
          clear hd
          go_simp
          refine hK _ _ ?_ (fun h => by cases h)
          intro s hs
          cases hs
          exact ⟨hB, c0, c1, c2, c3, c4, c5, c6, c7, c8, c9, c10, c11, c12, (fun _ => rfl), c14, c18, c20, c15, d17, c16, d19, y15_16⟩
        case s14r2 =>
          rintro L u W ⟨hB, c0, c1, c2, c3, c4, c5, c6, c7, c8, c9, c10, c11, c12, c13, c14, c18, c20, c15, d17, c16, d19, y15_16⟩ hf hd K hK
          dsimp only at hK
          have hd10 : L 10 = true := (by first | (refine hd ⟨10, .data⟩ ?_ rfl; simp; done) | (refine hd ⟨10, .guard⟩ ?_ rfl; simp; done) | (refine hd ⟨10, .phase⟩ ?_ rfl; simp; done) | (refine hd ⟨10, .chain⟩ ?_ rfl; simp; done))
          have e10 := c10 hd10
          rw [e10] at hK
          clear hd10
          clear hd
          go_simp
          refine hK _ _ ?_ (fun h => by cases h)
          intro s hs
          cases hs
          exact ⟨hB, c0, c1, c2, c3, c4, c5, c6, c7, c8, c9, c10, c11, c12, c13, (fun _ => rfl), c18, c20, c15, d17, c16, d19, y15_16⟩
        case s15r2 =>
          rintro L u W ⟨hB, c0, c1, c2, c3, c4, c5, c6, c7, c8, c9, c10, c11, c12, c13, c14, c18, c20, c15, d17, c16, d19, y15_16⟩ hf hd K hK
          dsimp only at hK
          go_simp
          have hb : Below W.heap.size W (W.alloc (.cells #[.int .i64 0, .int .i64 0] 23)) := (Below.refl _ W).alloc (Nat.le_refl _) _
          refine hK _ _ ?_ (fun h => by cases h)
          intro s hs
          cases hs
          exact ⟨hB.trans (hb.mono hB.size), c0, c1, c2, c3, c4, c5, c6, c7, c8, c9, c10, c11, c12, c13, c14, c18, c20, (fun _ => ⟨_, _, _, rfl, hB.size, Lok.new _ _ _, fun h => absurd (d17 h) (by rw [hf]; decide)⟩), (fun _ => rfl), (fun h => by obtain ⟨g, x16_0, x16_1, k1, k2, k3, k4⟩ := c16 h; exact ⟨g, x16_0, x16_1, k1, k2, k3.keep hb, k4⟩), d19, (fun _ h => by obtain ⟨g, x16_0, x16_1, k1, k2, k3, k4⟩ := c16 h; exact ptr_new k1 k3)⟩
        case s16r2 =>
          rintro L u W ⟨hB, c0, c1, c2, c3, c4, c5, c6, c7, c8, c9, c10, c11, c12, c13, c14, c18, c20, c15, d17, c16, d19, y15_16⟩ hf hd K hK
          dsimp only at hK
          go_simp
          have hb : Below W.heap.size W (W.alloc (.cells #[.int .i64 0, .int .i64 0] 29)) := (Below.refl _ W).alloc (Nat.le_refl _) _
          refine hK _ _ ?_ (fun h => by cases h)
          intro s hs
          cases hs
          exact ⟨hB.trans (hb.mono hB.size), c0, c1, c2, c3, c4, c5, c6, c7, c8, c9, c10, c11, c12, c13, c14, c18, c20, (fun h => by obtain ⟨g, x15_0, x15_1, k1, k2, k3, k4⟩ := c15 h; exact ⟨g, x15_0, x15_1, k1, k2, k3.keep hb, k4⟩), d17, (fun _ => ⟨_, _, _, rfl, hB.size, Lok.new _ _ _, fun h => absurd (d19 h) (by rw [hf]; decide)⟩), (fun _ => rfl), (fun h _ => by obtain ⟨g, x15_0, x15_1, k1, k2, k3, k4⟩ := c15 h; exact ptr_new2 k1 k3)⟩
        case s17r2 =>
          rintro L u W ⟨hB, c0, c1, c2, c3, c4, c5, c6, c7, c8, c9, c10, c11, c12, c13, c14, c18, c20, c15, d17, c16, d19, y15_16⟩ hf hd K hK
          dsimp only at hK
          have hd15 : L 15 = true := hd ⟨15, .data⟩ (by simp) rfl
          have hd11 : L 11 = true := (by first | (refine hd ⟨11, .data⟩ ?_ rfl; simp; done) | (refine hd ⟨11, .guard⟩ ?_ rfl; simp; done) | (refine hd ⟨11, .phase⟩ ?_ rfl; simp; done) | (refine hd ⟨11, .chain⟩ ?_ rfl; simp; done))
          obtain ⟨g, x15_0, x15_1, e15, k2, k3, k4⟩ := c15 hd15
          rw [e15] at hK
          have e11 := c11 hd11
          rw [e11] at hK
          have t0 := k3.cell (i := 0) rfl
          have f0 := k3.frozen 0
          have t1 := k3.cell (i := 1) rfl
          have f1 := k3.frozen 1
          have HH := Lib.hid (And.intro trivial trivial)
          clear hd
          have hd15' := Lib.hid hd15
          clear hd15
          have hd11' := Lib.hid hd11
          clear hd11
          go_simp
          have hd15 := hd15'.out
          have hd11 := hd11'.out
          have hlok := (k3.set (i := 0) (v := .int .i64 u2)).set (i := 1) (v := .int .i64 v2)
          refine hK undef _ (fun s h => by cases h) (fun _ => ?_)
          exact ⟨(hB.setCell k2 _).setCell k2 _, c0, c1, c2, c3, c4, c5, c6, c7, c8, c9, c10, (fun _ => rfl), c12, c13, c14, c18, c20, (fun _ => ⟨g, _, _, rfl, k2, hlok, fun _ => ⟨rfl, rfl⟩⟩), (fun _ => hd15), (fun h => by obtain ⟨g2, x16_0, x16_1, m1, m2, m3, m4⟩ := c16 h; have hne := ptr_apart (y15_16 hd15 h) e15 m1; exact ⟨g2, x16_0, x16_1, m1, m2, (m3.far hne).far hne, m4⟩), d19, (fun h1 h2 => by first | exact y15_16 h1 h2 | (rw [← e15]; exact y15_16 h1 h2))⟩
        case s18r2 =>
          rintro L u W ⟨hB, c0, c1, c2, c3, c4, c5, c6, c7, c8, c9, c10, c11, c12, c13, c14, c18, c20, c15, d17, c16, d19, y15_16⟩ hf hd K hK
          dsimp only at hK
          have hd12 : L 12 = true := (by first | (refine hd ⟨12, .data⟩ ?_ rfl; simp; done) | (refine hd ⟨12, .guard⟩ ?_ rfl; simp; done) | (refine hd ⟨12, .phase⟩ ?_ rfl; simp; done) | (refine hd ⟨12, .chain⟩ ?_ rfl; simp; done))
          have e12 := c12 hd12
          rw [e12] at hK
          clear hd12
          clear hd
          go_simp
          refine hK _ _ ?_ (fun h => by cases h)
          intro s hs
          cases hs
          exact ⟨hB, c0, c1, c2, c3, c4, c5, c6, c7, c8, c9, c10, c11, c12, c13, c14, (fun _ => rfl), c20, c15, d17, c16, d19, y15_16⟩
        case s19r2 =>
          rintro L u W ⟨hB, c0, c1, c2, c3, c4, c5, c6, c7, c8, c9, c10, c11, c12, c13, c14, c18, c20, c15, d17, c16, d19, y15_16⟩ hf hd K hK
          dsimp only at hK
          have hd16 : L 16 = true := hd ⟨16, .data⟩ (by simp) rfl
          have hd13 : L 13 = true := (by first | (refine hd ⟨13, .data⟩ ?_ rfl; simp; done) | (refine hd ⟨13, .guard⟩ ?_ rfl; simp; done) | (refine hd ⟨13, .phase⟩ ?_ rfl; simp; done) | (refine hd ⟨13, .chain⟩ ?_ rfl; simp; done))
          obtain ⟨g, x16_0, x16_1, e16, k2, k3, k4⟩ := c16 hd16
          rw [e16] at hK
          have e13 := c13 hd13
          rw [e13] at hK
          have t0 := k3.cell (i := 0) rfl
          have f0 := k3.frozen 0
          have t1 := k3.cell (i := 1) rfl
          have f1 := k3.frozen 1
          have HH := Lib.hid (And.intro trivial trivial)
          clear hd
          have hd16' := Lib.hid hd16
          clear hd16
          have hd13' := Lib.hid hd13
          clear hd13
          go_simp
          have hd16 := hd16'.out
          have hd13 := hd13'.out
          have hlok := (k3.set (i := 0) (v := .int .i64 n2)).set (i := 1) (v := .int .i64 d2)
          refine hK undef _ (fun s h => by cases h) (fun _ => ?_)
          exact ⟨(hB.setCell k2 _).setCell k2 _, c0, c1, c2, c3, c4, c5, c6, c7, c8, c9, c10, c11, c12, (fun _ => rfl), c14, c18, c20, (fun h => by obtain ⟨g2, x15_0, x15_1, m1, m2, m3, m4⟩ := c15 h; have hne := ptr_apart2 (y15_16 h hd16) m1 e16; exact ⟨g2, x15_0, x15_1, m1, m2, (m3.far hne).far hne, m4⟩), d17, (fun _ => ⟨g, _, _, rfl, k2, hlok, fun _ => ⟨rfl, rfl⟩⟩), (fun _ => hd16), (fun h1 h2 => by first | exact y15_16 h1 h2 | (rw [← e16]; exact y15_16 h1 h2))⟩
        case s20r2 =>
          rintro L u W ⟨hB, c0, c1, c2, c3, c4, c5, c6, c7, c8, c9, c10, c11, c12, c13, c14, c18, c20, c15, d17, c16, d19, y15_16⟩ hf hd K hK
          dsimp only at hK
          have hd14 : L 14 = true := (by first | (refine hd ⟨14, .data⟩ ?_ rfl; simp; done) | (refine hd ⟨14, .guard⟩ ?_ rfl; simp; done) | (refine hd ⟨14, .phase⟩ ?_ rfl; simp; done) | (refine hd ⟨14, .chain⟩ ?_ rfl; simp; done))
          have e14 := c14 hd14
          rw [e14] at hK
          clear hd14
          clear hd
          go_simp
          refine hK _ _ ?_ (fun h => by cases h)
          intro s hs
          cases hs
          exact ⟨hB, c0, c1, c2, c3, c4, c5, c6, c7, c8, c9, c10, c11, c12, c13, c14, c18, (fun _ => rfl), c15, d17, c16, d19, y15_16⟩
      case finr2 =>
        rintro L u W hL ⟨hB, c0, c1, c2, c3, c4, c5, c6, c7, c8, c9, c10, c11, c12, c13, c14, c18, c20, c15, d17, c16, d19, y15_16⟩
        have e0 := c0 (hL 0 (by decide))
        have e1 := c1 (hL 1 (by decide))
        have e2 := c2 (hL 2 (by decide))
        have e3 := c3 (hL 3 (by decide))
        have e4 := c4 (hL 4 (by decide))
        have e5 := c5 (hL 5 (by decide))
        have e6 := c6 (hL 6 (by decide))
        have e7 := c7 (hL 7 (by decide))
        have e8 := c8 (hL 8 (by decide))
        have e9 := c9 (hL 9 (by decide))
        have e10 := c10 (hL 10 (by decide))
        have e11 := c11 (hL 11 (by decide))
        have e12 := c12 (hL 12 (by decide))
        have e13 := c13 (hL 13 (by decide))
        have e14 := c14 (hL 14 (by decide))
        have e18 := c18 (hL 18 (by decide))
        have e20 := c20 (hL 20 (by decide))
        obtain ⟨g15, x15_0, x15_1, e15, hg15, hlok15, hst15⟩ := c15 (hL 15 (by decide))
        obtain ⟨rfl, rfl⟩ := hst15 (hL 17 (by decide))
        clear hst15
        obtain ⟨g16, x16_0, x16_1, e16, hg16, hlok16, hst16⟩ := c16 (hL 16 (by decide))
        obtain ⟨rfl, rfl⟩ := hst16 (hL 19 (by decide))
        clear hst16
        clear hL c0 c1 c2 c3 c4 c5 c6 c7 c8 c9 c10 c11 c12 c13 c14 c18 c20 c15 d17 c16 d19 y15_16
        try simp only [e0, e1, e2, e3, e4, e5, e6, e7, e8, e9, e10, e11, e12, e13, e14, e18, e20, e15, e16]
        clear e0 e1 e2 e3 e4 e5 e6 e7 e8 e9 e10 e11 e12 e13 e14 e18 e20 e15 e16
        have l0 := km.out.lt
        have l1 := kq.out.lt
        have kp := Lib.hid (kp.out.keep hB)
        have kt := Lib.hid (kt.out.keep hB)
        have km := Lib.hid (km.out.keep hB)
        have kq := Lib.hid (kq.out.keep hB)
        have H2 := Lib.hid (H1.out.trans (hB.mono (by omega)))
        have ka := Lib.hid hlok15
        have kc := Lib.hid hlok16
        have la := hlok15.lt
        have lc := hlok16.lt
        have fb := hB.size
        clear H1 hlok15 hlok16 hB
        have c0 := kc.out.cell (i := 0) rfl
        have c1' := kc.out.cell (i := 1) rfl
        have q0 := kq.out.cell (i := 0) rfl
        have q1 := kq.out.cell (i := 1) rfl
        go_wp2_with fail
        clear c0 c1' q0 q1
        (with_reducible refine (C2.out _).mono ?_)
        rintro e w9 ⟨rfl, hb9⟩
        replace H2 := Lib.hid (H2.out.trans (hb9.mono (by have := H2.out.size; omega)))
        have H3 := hb9
        replace kp := Lib.hid (kp.out.keep H3)
        replace km := Lib.hid (km.out.keep H3)
        replace kq := Lib.hid (kq.out.keep H3)
        replace ka := Lib.hid (ka.out.keep H3)
        replace kc := Lib.hid (kc.out.keep H3)
        clear H3 hb9
        by_cases hc : e2 < 0
        · have EE := E2.out
          simp only [l2_yes _ _ hc] at EE
          obtain ⟨rfl, rfl, rfl, rfl⟩ := EE
          have a0 := ka.out.cell (i := 0) rfl
          have a1' := ka.out.cell (i := 1) rfl
          have c0 := kc.out.cell (i := 0) rfl
          have c1' := kc.out.cell (i := 1) rfl
          have m0 := km.out.cell (i := 0) rfl
          have m1 := km.out.cell (i := 1) rfl
          have q0 := kq.out.cell (i := 0) rfl
          have q1 := kq.out.cell (i := 1) rfl
          have fm0 := km.out.frozen 0
          have fm1 := km.out.frozen 1
          have fq0 := kq.out.frozen 0
          have fq1 := kq.out.frozen 1
          have x1 : g15 ≠ gm := by omega
          have x2 : g15 ≠ gm + 1 := by omega
          have x3 : g16 ≠ gm := by omega
          have x4 : g16 ≠ gm + 1 := by omega
          go_wp2
          go_roundw
          case rel => exact ⟨3, _, _, _, _, rfl, .inr (.inr ⟨rfl, rfl, rfl, rfl, rfl⟩), (((H2.out.setCell (Nat.le_refl _) _).setCell (Nat.le_refl _) _).setCell (Nat.le_succ _) _).setCell (Nat.le_succ _) _, (((km.out.set (i := 0)).set (i := 1)).far (by omega)).far (by omega), (((kq.out.far (by omega)).far (by omega)).set (i := 0)).set (i := 1)⟩
          case measure => simp [intOf]
        · have EE := E2.out
          simp only [l2_no _ _ hc] at EE
          obtain ⟨rfl, rfl, rfl, rfl⟩ := EE
          go_wp2
          go_roundw
          case rel => exact ⟨3, _, _, _, _, rfl, .inr (.inr ⟨rfl, rfl, rfl, rfl, rfl⟩), H2.out, km.out, kq.out⟩
          case measure => simp [intOf]
    · go_upto_region 14 with fail
      have lt1 := kr.out.lt
      have o2 := kr.out
      have o3 := ks.out
      have l1 := km.out
      have l2 := kq.out
      have hbound : w.heap.size + 2 ≤ wr.heap.size := by omega
      refine wp_region_rel (by kernel_rfl) [69, 70, 6] ?Fr3 ?hFr3
        (fun L u W => Below (w.heap.size + 2) wr W ∧ (L 0 = true → u 69 = .agg #[.int .i64 U, .int .i64 V]) ∧ (L 1 = true → u 70 = .agg #[.int .i64 N, .int .i64 D]) ∧ (L 4 = true → u 6 = .int .i64 0) ∧ (L 2 = false → Lok W (w.heap.size + 2) 23 #[.int .i64 0, .int .i64 0]) ∧ (L 2 = true → Lok W (w.heap.size + 2) 23 #[.int .i64 U, .int .i64 V]) ∧ (L 3 = false → Lok W (w.heap.size + 3) 29 #[.int .i64 0, .int .i64 0]) ∧ (L 3 = true → Lok W (w.heap.size + 3) 29 #[.int .i64 N, .int .i64 D]) ∧ Lok W (gm) 23 #[.int .i64 U, .int .i64 V] ∧ Lok W (gm + 1) 29 #[.int .i64 N, .int .i64 D]) (by kernel_rfl) (by kernel_rfl) 5 rfl ?h0r3 ?stepr3 ?finr3
      case hFr3 => intro u; simp only [putAll, Act.put, List.setIfInBounds_toArray, List.set]; exact rfl
      case h0r3 => intro L u hL; exact ⟨(Below.refl _ _).drew, (fun h => by simp [hL] at h), (fun h => by simp [hL] at h), (fun h => by simp [hL] at h), (fun _ => by assumption), (fun h => by simp [hL] at h), (fun _ => by assumption), (fun h => by simp [hL] at h), (by first | assumption | (apply Lok.drew; assumption)), (by first | assumption | (apply Lok.drew; assumption))⟩
      case stepr3 =>
        refine ops_all (ops_cons ?s0r3 (ops_cons ?s1r3 (ops_cons ?s2r3 (ops_cons ?s3r3 (ops_cons ?s4r3 (ops_nil))))))
        case s0r3 =>
          rintro L u W ⟨hB, c0, c1, c4, o2, wn2, o3, wn3, lk1, lk2⟩ hf hd K hK
          dsimp only at hK
          have t0 := lk1.cell (i := 0) rfl
          have t1 := lk1.cell (i := 1) rfl
          clear hd
          go_simp
          refine hK _ _ ?_ (fun h => by cases h)
          intro s hs
          cases hs
          exact ⟨hB, (fun _ => rfl), c1, c4, o2, wn2, o3, wn3, lk1, lk2⟩
        case s1r3 =>
          rintro L u W ⟨hB, c0, c1, c4, o2, wn2, o3, wn3, lk1, lk2⟩ hf hd K hK
          dsimp only at hK
          have t0 := lk2.cell (i := 0) rfl
          have t1 := lk2.cell (i := 1) rfl
          clear hd
          go_simp
          refine hK _ _ ?_ (fun h => by cases h)
          intro s hs
          cases hs
          exact ⟨hB, c0, (fun _ => rfl), c4, o2, wn2, o3, wn3, lk1, lk2⟩
        case s2r3 =>
          rintro L u W ⟨hB, c0, c1, c4, o2, wn2, o3, wn3, lk1, lk2⟩ hf hd K hK
          dsimp only at hK
          have hd0 : L 0 = true := (by first | (refine hd ⟨0, .data⟩ ?_ rfl; simp; done) | (refine hd ⟨0, .phase⟩ ?_ rfl; simp; done))
          have k3 := o2 hf
          have e0 := c0 hd0
          rw [e0] at hK
          have t0 := k3.cell (i := 0) rfl
          have f0 := k3.frozen 0
          have t1 := k3.cell (i := 1) rfl
          have f1 := k3.frozen 1
          clear hd
          have hd0' := Lib.hid hd0
          clear hd0
          go_simp
          have hd0 := hd0'.out
          have hlok := (k3.set (i := 0) (v := .int .i64 U)).set (i := 1) (v := .int .i64 V)
          refine hK undef _ (fun s h => by cases h) (fun _ => ?_)
          exact ⟨(hB.setCell (by first | exact Nat.le_refl _ | assumption | (show _ ≤ _; omega) | (show ((w.heap.size + 2)) ≤ (w.heap.size + 2); omega)) _).setCell (by first | exact Nat.le_refl _ | assumption | (show _ ≤ _; omega) | (show ((w.heap.size + 2)) ≤ (w.heap.size + 2); omega)) _, (fun _ => rfl), c1, c4, (fun h => by cases h), (fun _ => hlok), (fun h => (((o3 h).far (by first | assumption | omega)).far (by first | assumption | omega))), (fun h => (((wn3 h).far (by first | assumption | omega)).far (by first | assumption | omega))), ((lk1.far (by first | assumption | omega)).far (by first | assumption | omega)), ((lk2.far (by first | assumption | omega)).far (by first | assumption | omega))⟩
        case s3r3 =>
          rintro L u W ⟨hB, c0, c1, c4, o2, wn2, o3, wn3, lk1, lk2⟩ hf hd K hK
          dsimp only at hK
          have hd1 : L 1 = true := (by first | (refine hd ⟨1, .data⟩ ?_ rfl; simp; done) | (refine hd ⟨1, .phase⟩ ?_ rfl; simp; done))
          have k3 := o3 hf
          have e1 := c1 hd1
          rw [e1] at hK
          have t0 := k3.cell (i := 0) rfl
          have f0 := k3.frozen 0
          have t1 := k3.cell (i := 1) rfl
          have f1 := k3.frozen 1
          clear hd
          have hd1' := Lib.hid hd1
          clear hd1
          go_simp
          have hd1 := hd1'.out
          have hlok := (k3.set (i := 0) (v := .int .i64 N)).set (i := 1) (v := .int .i64 D)
          refine hK undef _ (fun s h => by cases h) (fun _ => ?_)
          exact ⟨(hB.setCell (by first | exact Nat.le_refl _ | assumption | (show _ ≤ _; omega) | (show ((w.heap.size + 2)) ≤ (w.heap.size + 3); omega)) _).setCell (by first | exact Nat.le_refl _ | assumption | (show _ ≤ _; omega) | (show ((w.heap.size + 2)) ≤ (w.heap.size + 3); omega)) _, c0, (fun _ => rfl), c4, (fun h => (((o2 h).far (by first | assumption | omega)).far (by first | assumption | omega))), (fun h => (((wn2 h).far (by first | assumption | omega)).far (by first | assumption | omega))), (fun h => by cases h), (fun _ => hlok), ((lk1.far (by first | assumption | omega)).far (by first | assumption | omega)), ((lk2.far (by first | assumption | omega)).far (by first | assumption | omega))⟩
        case s4r3 =>
          rintro L u W ⟨hB, c0, c1, c4, o2, wn2, o3, wn3, lk1, lk2⟩ hf hd K hK
          dsimp only at hK
          clear hd
          go_simp
          refine hK _ _ ?_ (fun h => by cases h)
          intro s hs
          cases hs
          exact ⟨hB, c0, c1, (fun _ => rfl), o2, wn2, o3, wn3, lk1, lk2⟩
      case finr3 =>
        rintro L u W hL ⟨hB, c0, c1, c4, o2, wn2, o3, wn3, lk1, lk2⟩
        have e0 := c0 (hL 0 (by decide))
        have e1 := c1 (hL 1 (by decide))
        have e4 := c4 (hL 4 (by decide))
        have hlok2 := wn2 (hL 2 (by decide))
        have hlok3 := wn3 (hL 3 (by decide))
        clear hL c0 c1 c4 o2 wn2 o3 wn3
        try simp only [e0, e1, e4]
        clear e0 e1 e4
        have r0 := hlok2.cell (i := 0) rfl
        have r1 := hlok2.cell (i := 1) rfl
        have s0 := hlok3.cell (i := 0) rfl
        have s1 := hlok3.cell (i := 1) rfl
        go_wp2_with fail
        exact bodyPost_ret (v := .tuple #[.agg #[.int .i64 U, .int .i64 V], .agg #[.int .i64 N, .int .i64 D], .int .i64 0]) (by simp [results, Try.results11, go_sem, r0, r1, s0, s1]) rfl ⟨rfl, (H0.out.trans (H1.out.mono (by omega))).trans (hB.mono (by omega))⟩
set_option maxRecDepth 100000 in
set_option maxHeartbeats 4000000 in
theorem rclosest_in (x y a1 a2 b1 b2 c1 c2 : Int) (hp : s2 x y = true) (ha : rT a1 a2 b1 b2 c1 c2 = true) (hr : ¬ r1 a1 a2 b1 b2 c1 c2 x y < 0) (w : World) :
    Calls Try.prog 11 #[.agg #[.int .i64 x, .int .i64 y], .agg #[.int .i64 a1, .int .i64 a2, .int .i64 b1, .int .i64 b2, .int .i64 c1, .int .i64 c2]] w fun e' w' => e' = .returned (.tuple #[.agg #[.int .i64 x, .int .i64 y], .agg #[.int .i64 0, .int .i64 1], .int .i64 0]) ∧ Below w.heap.size w w' := by
  have HB := Lib.hid (Below.refl w.heap.size w)
  have IN := Lib.hid (fun W => rin_any x y a1 a2 b1 b2 c1 c2 W)
  rw [hp, ha, show iV true true (r1 a1 a2 b1 b2 c1 c2 x y) = r1 a1 a2 b1 b2 c1 c2 x y + 1 from rfl, show iE true true = 0 from rfl] at IN
  have iz : 0 < r1 a1 a2 b1 b2 c1 c2 x y + 1 := by omega
  generalize r1 a1 a2 b1 b2 c1 c2 x y + 1 = i at *
  clear hp ha hr
  go_enter Try.func11, Try.ntmps11
  go_upto_region 1 with fail
  have hbp := below_new1 w (.cells #[.int .i64 x, .int .i64 y] 23)
  have zp : (w.alloc (.cells #[.int .i64 x, .int .i64 y] 23)).heap.size = w.heap.size + 1 := by simp
  have HB := Lib.hid hbp
  have kp := Lib.hid (Lok.new w 23 #[.int .i64 x, .int .i64 y])
  clear hbp
  generalize w.alloc (.cells #[.int .i64 x, .int .i64 y] 23) = Vp at *
  have hbt := below_new1 Vp (.cells #[.int .i64 a1, .int .i64 a2, .int .i64 b1, .int .i64 b2, .int .i64 c1, .int .i64 c2] 24)
  replace kp := Lib.hid (kp.out.keep hbt)
  have zt : (Vp.alloc (.cells #[.int .i64 a1, .int .i64 a2, .int .i64 b1, .int .i64 b2, .int .i64 c1, .int .i64 c2] 24)).heap.size = Vp.heap.size + 1 := by simp
  replace HB := Lib.hid (HB.out.trans (hbt.mono HB.out.size))
  have kt := Lib.hid (Lok.new Vp 24 #[.int .i64 a1, .int .i64 a2, .int .i64 b1, .int .i64 b2, .int .i64 c1, .int .i64 c2])
  clear hbt
  generalize Vp.alloc (.cells #[.int .i64 a1, .int .i64 a2, .int .i64 b1, .int .i64 b2, .int .i64 c1, .int .i64 c2] 24) = Vt at *
  rw [zp] at kt zt
  have hbr := below_new1 Vt (.cells #[.int .i64 0, .int .i64 0] 23)
  replace kp := Lib.hid (kp.out.keep hbr)
  replace kt := Lib.hid (kt.out.keep hbr)
  have zr : (Vt.alloc (.cells #[.int .i64 0, .int .i64 0] 23)).heap.size = Vt.heap.size + 1 := by simp
  replace HB := Lib.hid (HB.out.trans (hbr.mono HB.out.size))
  have kr := Lib.hid (Lok.new Vt 23 #[.int .i64 0, .int .i64 0])
  clear hbr
  generalize Vt.alloc (.cells #[.int .i64 0, .int .i64 0] 23) = Vr at *
  rw [zt] at kr zr
  have hbs := below_new1 Vr (.cells #[.int .i64 0, .int .i64 0] 29)
  replace kp := Lib.hid (kp.out.keep hbs)
  replace kt := Lib.hid (kt.out.keep hbs)
  replace kr := Lib.hid (kr.out.keep hbs)
  have zs : (Vr.alloc (.cells #[.int .i64 0, .int .i64 0] 29)).heap.size = Vr.heap.size + 1 := by simp
  replace HB := Lib.hid (HB.out.trans (hbs.mono HB.out.size))
  have ks := Lib.hid (Lok.new Vr 29 #[.int .i64 0, .int .i64 0])
  clear hbs
  generalize Vr.alloc (.cells #[.int .i64 0, .int .i64 0] 29) = Vs at *
  rw [zr] at ks
  clear zp zt zr zs
  have p0 := kp.out.cell (i := 0) rfl
  have p1 := kp.out.cell (i := 1) rfl
  have t0 := kt.out.cell (i := 0) rfl
  have t1 := kt.out.cell (i := 1) rfl
  have t2 := kt.out.cell (i := 2) rfl
  have t3 := kt.out.cell (i := 3) rfl
  have t4 := kt.out.cell (i := 4) rfl
  have t5 := kt.out.cell (i := 5) rfl
  go_wp2_with fail
  clear p0 p1 t0 t1 t2 t3 t4 t5
  (((with_reducible refine (IN.out _).mono ?_); rintro e w1 ⟨rfl, hb1⟩); replace HB := Lib.hid (HB.out.trans (hb1.mono HB.out.size)); replace kp := Lib.hid (kp.out.keep hb1); replace kt := Lib.hid (kt.out.keep hb1); replace kr := Lib.hid (kr.out.keep hb1); replace ks := Lib.hid (ks.out.keep hb1); clear hb1)
  have p0 := kp.out.cell (i := 0) rfl
  have p1 := kp.out.cell (i := 1) rfl
  have r0 := kr.out.cell (i := 0) rfl
  have r1 := kr.out.cell (i := 1) rfl
  have s0 := ks.out.cell (i := 0) rfl
  have s1 := ks.out.cell (i := 1) rfl
  have fr0 := kr.out.frozen 0
  have fr1 := kr.out.frozen 1
  have fs0 := ks.out.frozen 0
  have fs1 := ks.out.frozen 1
  go_wp2_with fail
  exact bodyPost_ret (v := .tuple #[.agg #[.int .i64 x, .int .i64 y], .agg #[.int .i64 0, .int .i64 1], .int .i64 0]) (by simp [results, Try.results11, go_sem, r0, r1, s0, s1]) rfl ⟨rfl, (((HB.out.setCell (by simp <;> omega) _).setCell (by simp <;> omega) _).setCell (by simp <;> omega) _).setCell (by simp <;> omega) _⟩
set_option maxRecDepth 100000 in
set_option maxHeartbeats 4000000 in
theorem rclosest_no (x y a1 a2 b1 b2 c1 c2 : Int) (hp : s2 x y = false) (w : World) :
    Calls Try.prog 11 #[.agg #[.int .i64 x, .int .i64 y], .agg #[.int .i64 a1, .int .i64 a2, .int .i64 b1, .int .i64 b2, .int .i64 c1, .int .i64 c2]] w fun e' w' => e' = .returned (.tuple #[.agg #[.int .i64 0, .int .i64 0], .agg #[.int .i64 0, .int .i64 0], .int .i64 5]) ∧ Below w.heap.size w w' := by
  have HB := Lib.hid (Below.refl w.heap.size w)
  have IN := Lib.hid (fun W => rin_any x y a1 a2 b1 b2 c1 c2 W)
  rw [hp, show iV false (rT a1 a2 b1 b2 c1 c2) (r1 a1 a2 b1 b2 c1 c2 x y) = 0 from rfl, show iE false (rT a1 a2 b1 b2 c1 c2) = 5 from rfl] at IN
  clear hp
  go_enter Try.func11, Try.ntmps11
  go_upto_region 1 with fail
  have hbp := below_new1 w (.cells #[.int .i64 x, .int .i64 y] 23)
  have zp : (w.alloc (.cells #[.int .i64 x, .int .i64 y] 23)).heap.size = w.heap.size + 1 := by simp
  have HB := Lib.hid hbp
  have kp := Lib.hid (Lok.new w 23 #[.int .i64 x, .int .i64 y])
  clear hbp
  generalize w.alloc (.cells #[.int .i64 x, .int .i64 y] 23) = Vp at *
  have hbt := below_new1 Vp (.cells #[.int .i64 a1, .int .i64 a2, .int .i64 b1, .int .i64 b2, .int .i64 c1, .int .i64 c2] 24)
  replace kp := Lib.hid (kp.out.keep hbt)
  have zt : (Vp.alloc (.cells #[.int .i64 a1, .int .i64 a2, .int .i64 b1, .int .i64 b2, .int .i64 c1, .int .i64 c2] 24)).heap.size = Vp.heap.size + 1 := by simp
  replace HB := Lib.hid (HB.out.trans (hbt.mono HB.out.size))
  have kt := Lib.hid (Lok.new Vp 24 #[.int .i64 a1, .int .i64 a2, .int .i64 b1, .int .i64 b2, .int .i64 c1, .int .i64 c2])
  clear hbt
  generalize Vp.alloc (.cells #[.int .i64 a1, .int .i64 a2, .int .i64 b1, .int .i64 b2, .int .i64 c1, .int .i64 c2] 24) = Vt at *
  rw [zp] at kt zt
  have hbr := below_new1 Vt (.cells #[.int .i64 0, .int .i64 0] 23)
  replace kp := Lib.hid (kp.out.keep hbr)
  replace kt := Lib.hid (kt.out.keep hbr)
  have zr : (Vt.alloc (.cells #[.int .i64 0, .int .i64 0] 23)).heap.size = Vt.heap.size + 1 := by simp
  replace HB := Lib.hid (HB.out.trans (hbr.mono HB.out.size))
  have kr := Lib.hid (Lok.new Vt 23 #[.int .i64 0, .int .i64 0])
  clear hbr
  generalize Vt.alloc (.cells #[.int .i64 0, .int .i64 0] 23) = Vr at *
  rw [zt] at kr zr
  have hbs := below_new1 Vr (.cells #[.int .i64 0, .int .i64 0] 29)
  replace kp := Lib.hid (kp.out.keep hbs)
  replace kt := Lib.hid (kt.out.keep hbs)
  replace kr := Lib.hid (kr.out.keep hbs)
  have zs : (Vr.alloc (.cells #[.int .i64 0, .int .i64 0] 29)).heap.size = Vr.heap.size + 1 := by simp
  replace HB := Lib.hid (HB.out.trans (hbs.mono HB.out.size))
  have ks := Lib.hid (Lok.new Vr 29 #[.int .i64 0, .int .i64 0])
  clear hbs
  generalize Vr.alloc (.cells #[.int .i64 0, .int .i64 0] 29) = Vs at *
  rw [zr] at ks
  clear zp zt zr zs
  have p0 := kp.out.cell (i := 0) rfl
  have p1 := kp.out.cell (i := 1) rfl
  have t0 := kt.out.cell (i := 0) rfl
  have t1 := kt.out.cell (i := 1) rfl
  have t2 := kt.out.cell (i := 2) rfl
  have t3 := kt.out.cell (i := 3) rfl
  have t4 := kt.out.cell (i := 4) rfl
  have t5 := kt.out.cell (i := 5) rfl
  go_wp2_with fail
  clear p0 p1 t0 t1 t2 t3 t4 t5
  (((with_reducible refine (IN.out _).mono ?_); rintro e w1 ⟨rfl, hb1⟩); replace HB := Lib.hid (HB.out.trans (hb1.mono HB.out.size)); replace kp := Lib.hid (kp.out.keep hb1); replace kt := Lib.hid (kt.out.keep hb1); replace kr := Lib.hid (kr.out.keep hb1); replace ks := Lib.hid (ks.out.keep hb1); clear hb1)
  have r0 := kr.out.cell (i := 0) rfl
  have r1 := kr.out.cell (i := 1) rfl
  have s0 := ks.out.cell (i := 0) rfl
  have s1 := ks.out.cell (i := 1) rfl
  have fr0 := kr.out.frozen 0
  have fr1 := kr.out.frozen 1
  have fs0 := ks.out.frozen 0
  have fs1 := ks.out.frozen 1
  go_wp2_with fail
  exact bodyPost_ret (v := .tuple #[.agg #[.int .i64 0, .int .i64 0], .agg #[.int .i64 0, .int .i64 0], .int .i64 5]) (by simp [results, Try.results11, go_sem, r0, r1, s0, s1]) rfl ⟨rfl, (((HB.out.setCell (by simp <;> omega) _).setCell (by simp <;> omega) _).setCell (by simp <;> omega) _).setCell (by simp <;> omega) _⟩
set_option maxRecDepth 100000 in
set_option maxHeartbeats 4000000 in
theorem rclosest_arg (x y a1 a2 b1 b2 c1 c2 : Int) (hp : s2 x y = true) (ha : rT a1 a2 b1 b2 c1 c2 = false) (w : World) :
    Calls Try.prog 11 #[.agg #[.int .i64 x, .int .i64 y], .agg #[.int .i64 a1, .int .i64 a2, .int .i64 b1, .int .i64 b2, .int .i64 c1, .int .i64 c2]] w fun e' w' => e' = .returned (.tuple #[.agg #[.int .i64 0, .int .i64 0], .agg #[.int .i64 0, .int .i64 0], .int .i64 1]) ∧ Below w.heap.size w w' := by
  have HB := Lib.hid (Below.refl w.heap.size w)
  have IN := Lib.hid (fun W => rin_any x y a1 a2 b1 b2 c1 c2 W)
  rw [hp, ha, show iV true false (r1 a1 a2 b1 b2 c1 c2 x y) = 0 from rfl, show iE true false = 1 from rfl] at IN
  clear hp ha
  go_enter Try.func11, Try.ntmps11
  go_upto_region 1 with fail
  have hbp := below_new1 w (.cells #[.int .i64 x, .int .i64 y] 23)
  have zp : (w.alloc (.cells #[.int .i64 x, .int .i64 y] 23)).heap.size = w.heap.size + 1 := by simp
  have HB := Lib.hid hbp
  have kp := Lib.hid (Lok.new w 23 #[.int .i64 x, .int .i64 y])
  clear hbp
  generalize w.alloc (.cells #[.int .i64 x, .int .i64 y] 23) = Vp at *
  have hbt := below_new1 Vp (.cells #[.int .i64 a1, .int .i64 a2, .int .i64 b1, .int .i64 b2, .int .i64 c1, .int .i64 c2] 24)
  replace kp := Lib.hid (kp.out.keep hbt)
  have zt : (Vp.alloc (.cells #[.int .i64 a1, .int .i64 a2, .int .i64 b1, .int .i64 b2, .int .i64 c1, .int .i64 c2] 24)).heap.size = Vp.heap.size + 1 := by simp
  replace HB := Lib.hid (HB.out.trans (hbt.mono HB.out.size))
  have kt := Lib.hid (Lok.new Vp 24 #[.int .i64 a1, .int .i64 a2, .int .i64 b1, .int .i64 b2, .int .i64 c1, .int .i64 c2])
  clear hbt
  generalize Vp.alloc (.cells #[.int .i64 a1, .int .i64 a2, .int .i64 b1, .int .i64 b2, .int .i64 c1, .int .i64 c2] 24) = Vt at *
  rw [zp] at kt zt
  have hbr := below_new1 Vt (.cells #[.int .i64 0, .int .i64 0] 23)
  replace kp := Lib.hid (kp.out.keep hbr)
  replace kt := Lib.hid (kt.out.keep hbr)
  have zr : (Vt.alloc (.cells #[.int .i64 0, .int .i64 0] 23)).heap.size = Vt.heap.size + 1 := by simp
  replace HB := Lib.hid (HB.out.trans (hbr.mono HB.out.size))
  have kr := Lib.hid (Lok.new Vt 23 #[.int .i64 0, .int .i64 0])
  clear hbr
  generalize Vt.alloc (.cells #[.int .i64 0, .int .i64 0] 23) = Vr at *
  rw [zt] at kr zr
  have hbs := below_new1 Vr (.cells #[.int .i64 0, .int .i64 0] 29)
  replace kp := Lib.hid (kp.out.keep hbs)
  replace kt := Lib.hid (kt.out.keep hbs)
  replace kr := Lib.hid (kr.out.keep hbs)
  have zs : (Vr.alloc (.cells #[.int .i64 0, .int .i64 0] 29)).heap.size = Vr.heap.size + 1 := by simp
  replace HB := Lib.hid (HB.out.trans (hbs.mono HB.out.size))
  have ks := Lib.hid (Lok.new Vr 29 #[.int .i64 0, .int .i64 0])
  clear hbs
  generalize Vr.alloc (.cells #[.int .i64 0, .int .i64 0] 29) = Vs at *
  rw [zr] at ks
  clear zp zt zr zs
  have p0 := kp.out.cell (i := 0) rfl
  have p1 := kp.out.cell (i := 1) rfl
  have t0 := kt.out.cell (i := 0) rfl
  have t1 := kt.out.cell (i := 1) rfl
  have t2 := kt.out.cell (i := 2) rfl
  have t3 := kt.out.cell (i := 3) rfl
  have t4 := kt.out.cell (i := 4) rfl
  have t5 := kt.out.cell (i := 5) rfl
  go_wp2_with fail
  clear p0 p1 t0 t1 t2 t3 t4 t5
  (((with_reducible refine (IN.out _).mono ?_); rintro e w1 ⟨rfl, hb1⟩); replace HB := Lib.hid (HB.out.trans (hb1.mono HB.out.size)); replace kp := Lib.hid (kp.out.keep hb1); replace kt := Lib.hid (kt.out.keep hb1); replace kr := Lib.hid (kr.out.keep hb1); replace ks := Lib.hid (ks.out.keep hb1); clear hb1)
  have r0 := kr.out.cell (i := 0) rfl
  have r1 := kr.out.cell (i := 1) rfl
  have s0 := ks.out.cell (i := 0) rfl
  have s1 := ks.out.cell (i := 1) rfl
  have fr0 := kr.out.frozen 0
  have fr1 := kr.out.frozen 1
  have fs0 := ks.out.frozen 0
  have fs1 := ks.out.frozen 1
  go_wp2_with fail
  exact bodyPost_ret (v := .tuple #[.agg #[.int .i64 0, .int .i64 0], .agg #[.int .i64 0, .int .i64 0], .int .i64 1]) (by simp [results, Try.results11, go_sem, r0, r1, s0, s1]) rfl ⟨rfl, (((HB.out.setCell (by simp <;> omega) _).setCell (by simp <;> omega) _).setCell (by simp <;> omega) _).setCell (by simp <;> omega) _⟩
theorem rclosest_any (x y a1 a2 b1 b2 c1 c2 : Int) (w : World) :
    Calls Try.prog 11 #[.agg #[.int .i64 x, .int .i64 y], .agg #[.int .i64 a1, .int .i64 a2, .int .i64 b1, .int .i64 b2, .int .i64 c1, .int .i64 c2]] w fun e' w' => e' = .returned (.tuple #[.agg #[.int .i64 (clV (s2 x y) (rT a1 a2 b1 b2 c1 c2) (r1 a1 a2 b1 b2 c1 c2 x y) x (nrS x y a1 a2 b1 b2 c1 c2 fX)), .int .i64 (clV (s2 x y) (rT a1 a2 b1 b2 c1 c2) (r1 a1 a2 b1 b2 c1 c2 x y) y (nrS x y a1 a2 b1 b2 c1 c2 fY))], .agg #[.int .i64 (clV (s2 x y) (rT a1 a2 b1 b2 c1 c2) (r1 a1 a2 b1 b2 c1 c2 x y) 0 (nrS x y a1 a2 b1 b2 c1 c2 fN)), .int .i64 (clV (s2 x y) (rT a1 a2 b1 b2 c1 c2) (r1 a1 a2 b1 b2 c1 c2 x y) 1 (nrS x y a1 a2 b1 b2 c1 c2 fD))], .int .i64 (iE (s2 x y) (rT a1 a2 b1 b2 c1 c2))]) ∧ Below w.heap.size w w' := by
  cases hs : s2 x y with
  | false => exact rclosest_no x y a1 a2 b1 b2 c1 c2 hs w
  | true =>
    cases ha : rT a1 a2 b1 b2 c1 c2 with
    | false => exact rclosest_arg x y a1 a2 b1 b2 c1 c2 hs ha w
    | true =>
      by_cases hr : r1 a1 a2 b1 b2 c1 c2 x y < 0
      · rw [clV_out _ _ hr, clV_out _ _ hr, clV_out _ _ hr, clV_out _ _ hr]; exact rclosest_out x y a1 a2 b1 b2 c1 c2 hs ha hr w
      · rw [clV_in _ _ hr, clV_in _ _ hr, clV_in _ _ hr, clV_in _ _ hr]; exact rclosest_in x y a1 a2 b1 b2 c1 c2 hs ha hr w
end Go.Proofs.Ytllamakemgogaaa
