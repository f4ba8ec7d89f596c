/-
  Contracts of package near: the method that finds an edge's foot. (gen/NrB.py)
-/
import Derived.Test.YtllamakemgogaaaNrA
namespace Go.Proofs.Ytllamakemgogaaa
open Go.RowKit

set_option maxRecDepth 100000 in
set_option maxHeartbeats 4000000 in
theorem foot_0 (x y a1 a2 b1 b2 : Int) (hm : em x y a1 a2 b1 b2 ≤ 0)
    (hp : s2 x y = true) (ha : s2 a1 a2 = true) (hb : s2 b1 b2 = true) (w : World) :
    Calls Try.prog 22 #[.agg #[.int .i64 x, .int .i64 y], .agg #[.int .i64 a1, .int .i64 a2], .agg #[.int .i64 b1, .int .i64 b2]] w fun e' w' => e' = .returned (.tuple #[.agg #[.int .i64 a1, .int .i64 a2], .int .i64 0, .agg #[.int .i64 (sq x y a1 a2), .int .i64 1]]) ∧ Below w.heap.size w w' := by
  have HB := Lib.hid (Below.refl w.heap.size w)
  have U1 := Lib.hid (fun W => sub2_sm ha hb W)
  have U2 := Lib.hid (fun W => sub2_sm ha hp W)
  obtain ⟨hp1, hp2⟩ := s2_iff.1 hp
  obtain ⟨ha1, ha2⟩ := s2_iff.1 ha
  obtain ⟨hb1, hb2⟩ := s2_iff.1 hb
  have D1 := Lib.hid (fun W => ndot_any (x - a1) (y - a2) (b1 - a1) (b2 - a2) (dif_sm hp1 ha1) (dif_sm hp2 ha2) (dif_sm hb1 ha1) (dif_sm hb2 ha2) W)
  have D2 := Lib.hid (fun W => ndot_any (b1 - a1) (b2 - a2) (b1 - a1) (b2 - a2) (dif_sm hb1 ha1) (dif_sm hb2 ha2) (dif_sm hb1 ha1) (dif_sm hb2 ha2) W)
  rw [show (x - a1) * (b1 - a1) + (y - a2) * (b2 - a2) = em x y a1 a2 b1 b2 from rfl] at D1
  rw [show (b1 - a1) * (b1 - a1) + (b2 - a2) * (b2 - a2) = sq a1 a2 b1 b2 from rfl] at D2
  have Q := Lib.hid (fun W => apart_any x y a1 a2 hp ha W)
  generalize sq x y a1 a2 = n0 at *
  generalize em x y a1 a2 b1 b2 = m at *
  generalize sq a1 a2 b1 b2 = n at *
  generalize hd1 : b1 - a1 = d1 at *
  generalize hd2 : b2 - a2 = d2 at *
  generalize hc1 : x - a1 = c1 at *
  generalize hc2 : y - a2 = c2 at *
  clear hp ha hb hp1 hp2 ha1 ha2 hb1 hb2 hd1 hd2 hc1 hc2
  go_enter Try.func22, Try.ntmps22
  go_upto_region 1 with fail
  have hbx := below_new1 w (.cells #[.int .i64 x, .int .i64 y] 53)
  have zx : (w.alloc (.cells #[.int .i64 x, .int .i64 y] 53)).heap.size = w.heap.size + 1 := by simp
  have HB := Lib.hid hbx
  have kx := Lib.hid (Lok.new w 53 #[.int .i64 x, .int .i64 y])
  clear hbx
  generalize w.alloc (.cells #[.int .i64 x, .int .i64 y] 53) = Vx at *
  have hbp := below_new1 Vx (.cells #[.int .i64 a1, .int .i64 a2] 23)
  replace kx := Lib.hid (kx.out.keep hbp)
  have zp : (Vx.alloc (.cells #[.int .i64 a1, .int .i64 a2] 23)).heap.size = Vx.heap.size + 1 := by simp
  replace HB := Lib.hid (HB.out.trans (hbp.mono HB.out.size))
  have kp := Lib.hid (Lok.new Vx 23 #[.int .i64 a1, .int .i64 a2])
  clear hbp
  generalize Vx.alloc (.cells #[.int .i64 a1, .int .i64 a2] 23) = Vp at *
  rw [zx] at kp zp
  have hbq := below_new1 Vp (.cells #[.int .i64 b1, .int .i64 b2] 23)
  replace kx := Lib.hid (kx.out.keep hbq)
  replace kp := Lib.hid (kp.out.keep hbq)
  have zq : (Vp.alloc (.cells #[.int .i64 b1, .int .i64 b2] 23)).heap.size = Vp.heap.size + 1 := by simp
  replace HB := Lib.hid (HB.out.trans (hbq.mono HB.out.size))
  have kq := Lib.hid (Lok.new Vp 23 #[.int .i64 b1, .int .i64 b2])
  clear hbq
  generalize Vp.alloc (.cells #[.int .i64 b1, .int .i64 b2] 23) = Vq at *
  rw [zp] at kq zq
  have hbr := below_new1 Vq (.cells #[.int .i64 0, .int .i64 0] 23)
  replace kx := Lib.hid (kx.out.keep hbr)
  replace kp := Lib.hid (kp.out.keep hbr)
  replace kq := Lib.hid (kq.out.keep hbr)
  have zr : (Vq.alloc (.cells #[.int .i64 0, .int .i64 0] 23)).heap.size = Vq.heap.size + 1 := by simp
  replace HB := Lib.hid (HB.out.trans (hbr.mono HB.out.size))
  have kr := Lib.hid (Lok.new Vq 23 #[.int .i64 0, .int .i64 0])
  clear hbr
  generalize Vq.alloc (.cells #[.int .i64 0, .int .i64 0] 23) = Vr at *
  rw [zq] at kr zr
  have hbs := below_new1 Vr (.cells #[.int .i64 0, .int .i64 0] 29)
  replace kx := Lib.hid (kx.out.keep hbs)
  replace kp := Lib.hid (kp.out.keep hbs)
  replace kq := Lib.hid (kq.out.keep hbs)
  replace kr := Lib.hid (kr.out.keep hbs)
  have zs : (Vr.alloc (.cells #[.int .i64 0, .int .i64 0] 29)).heap.size = Vr.heap.size + 1 := by simp
  replace HB := Lib.hid (HB.out.trans (hbs.mono HB.out.size))
  have ks := Lib.hid (Lok.new Vr 29 #[.int .i64 0, .int .i64 0])
  clear hbs
  generalize Vr.alloc (.cells #[.int .i64 0, .int .i64 0] 29) = Vs at *
  rw [zr] at ks
  clear zx zp zq zr zs
  have lt0 := kx.out.lt
  have lt1 := kp.out.lt
  have lt2 := kq.out.lt
  have lt3 := kr.out.lt
  have lt4 := ks.out.lt
  refine wp_region_rel (by kernel_rfl) [16, 17, 18, 19, 9, 10] ?Fr3 ?hFr3
    (fun L u W => Below Vs.heap.size Vs W ∧ (L 0 = true → u 16 = .agg #[.int .i64 x, .int .i64 y]) ∧ (L 1 = true → u 17 = .agg #[.int .i64 b1, .int .i64 b2]) ∧ (L 2 = true → u 18 = .agg #[.int .i64 a1, .int .i64 a2]) ∧ (L 3 = true → u 19 = .agg #[.int .i64 d1, .int .i64 d2]) ∧ (L 4 = true → ∃ (g : Nat) (x4_0 x4_1 : Value), u 9 = .pointer (some ⟨g, 0, none⟩) ∧ Vs.heap.size ≤ g ∧ Lok W g 23 #[x4_0, x4_1] ∧ (L 6 = true → x4_0 = .int .i64 x ∧ x4_1 = .int .i64 y)) ∧ (L 6 = true → L 4 = true) ∧ (L 5 = true → ∃ (g : Nat) (x5_0 x5_1 : Value), u 10 = .pointer (some ⟨g, 0, none⟩) ∧ Vs.heap.size ≤ g ∧ Lok W g 23 #[x5_0, x5_1] ∧ (L 7 = true → x5_0 = .int .i64 d1 ∧ x5_1 = .int .i64 d2)) ∧ (L 7 = true → L 5 = true) ∧ (L 4 = true → L 5 = true → u 9 ≠ u 10)) (by kernel_rfl) (by kernel_rfl) 8 rfl ?h0r3 ?stepr3 ?finr3
  case hFr3 => intro u; simp only [putAll, Act.put, List.setIfInBounds_toArray, List.set]; exact rfl
  case h0r3 => intro L u hL; exact ⟨(Below.refl _ _).drew, (fun h => by simp [hL] at h), (fun h => by simp [hL] at h), (fun h => by simp [hL] at h), (fun h => by simp [hL] at h), (fun h => by simp [hL] at h), (fun h => by simp [hL] at h), (fun h => by simp [hL] at h), (fun h => by simp [hL] at h), (fun h => by simp [hL] at h)⟩
  case stepr3 =>
    refine ops_all (ops_cons ?s0r3 (ops_cons ?s1r3 (ops_cons ?s2r3 (ops_cons ?s3r3 (ops_cons ?s4r3 (ops_cons ?s5r3 (ops_cons ?s6r3 (ops_cons ?s7r3 (ops_nil)))))))))
    case s0r3 =>
      rintro L u W ⟨hB, c0, c1, c2, c3, c4, d6, c5, d7, y4_5⟩ hf hd K hK
      dsimp only at hK
      have t0 := (kx.out.keep hB).cell (i := 0) rfl
      have t1 := (kx.out.keep hB).cell (i := 1) rfl
      clear hd
      go_simp
      refine hK _ _ ?_ (fun h => by cases h)
      intro s hs
      cases hs
      exact ⟨hB, (fun _ => rfl), c1, c2, c3, c4, d6, c5, d7, y4_5⟩
    case s1r3 =>
      rintro L u W ⟨hB, c0, c1, c2, c3, c4, d6, c5, d7, y4_5⟩ hf hd K hK
      dsimp only at hK
      have t0 := (kq.out.keep hB).cell (i := 0) rfl
      have t1 := (kq.out.keep hB).cell (i := 1) rfl
      clear hd
      go_simp
      refine hK _ _ ?_ (fun h => by cases h)
      intro s hs
      cases hs
      exact ⟨hB, c0, (fun _ => rfl), c2, c3, c4, d6, c5, d7, y4_5⟩
    case s2r3 =>
      rintro L u W ⟨hB, c0, c1, c2, c3, c4, d6, c5, d7, y4_5⟩ hf hd K hK
      dsimp only at hK
      have t0 := (kp.out.keep hB).cell (i := 0) rfl
      have t1 := (kp.out.keep hB).cell (i := 1) rfl
      clear hd
      go_simp
      refine hK _ _ ?_ (fun h => by cases h)
      intro s hs
      cases hs
      exact ⟨hB, c0, c1, (fun _ => rfl), c3, c4, d6, c5, d7, y4_5⟩
    case s3r3 =>
      rintro L u W ⟨hB, c0, c1, c2, c3, c4, d6, c5, d7, y4_5⟩ hf hd K hK
      dsimp only at hK
      have hd1 : L 1 = true := (by first | (refine hd ⟨1, .data⟩ ?_ rfl; simp; done) | (refine hd ⟨1, .guard⟩ ?_ rfl; simp; done) | (refine hd ⟨1, .phase⟩ ?_ rfl; simp; done) | (refine hd ⟨1, .chain⟩ ?_ rfl; simp; done))
      have hd2 : L 2 = true := (by first | (refine hd ⟨2, .data⟩ ?_ rfl; simp; done) | (refine hd ⟨2, .guard⟩ ?_ rfl; simp; done) | (refine hd ⟨2, .phase⟩ ?_ rfl; simp; done) | (refine hd ⟨2, .chain⟩ ?_ rfl; simp; done))
      have e1 := c1 hd1
      rw [e1] at hK
      have e2 := c2 hd2
      rw [e2] at hK
      clear hd1
      clear hd2
      clear hd
      go_simp
      go_wp2_with (go_at_call 43; ((with_reducible refine (U1.out _).mono ?_); rintro e w5 ⟨rfl, hb⟩))
      refine hK _ _ ?_ (fun h => by cases h)
      intro s hs
      cases hs
      exact ⟨hB.trans (hb.mono hB.size), c0, c1, c2, (fun _ => rfl), (fun h => by obtain ⟨g, x4_0, x4_1, k1, k2, k3, k4⟩ := c4 h; exact ⟨g, x4_0, x4_1, k1, k2, k3.keep hb, k4⟩), d6, (fun h => by obtain ⟨g, x5_0, x5_1, k1, k2, k3, k4⟩ := c5 h; exact ⟨g, x5_0, x5_1, k1, k2, k3.keep hb, k4⟩), d7, y4_5⟩
    case s4r3 =>
      rintro L u W ⟨hB, c0, c1, c2, c3, c4, d6, c5, d7, y4_5⟩ hf hd K hK
      dsimp only at hK
      go_simp
      have hb : Below W.heap.size W (W.alloc (.cells #[.int .i64 0, .int .i64 0] 23)) := (Below.refl _ W).alloc (Nat.le_refl _) _
      refine hK _ _ ?_ (fun h => by cases h)
      intro s hs
      cases hs
      exact ⟨hB.trans (hb.mono hB.size), c0, c1, c2, c3, (fun _ => ⟨_, _, _, rfl, hB.size, Lok.new _ _ _, fun h => absurd (d6 h) (by rw [hf]; decide)⟩), (fun _ => rfl), (fun h => by obtain ⟨g, x5_0, x5_1, k1, k2, k3, k4⟩ := c5 h; exact ⟨g, x5_0, x5_1, k1, k2, k3.keep hb, k4⟩), d7, (fun _ h => by obtain ⟨g, x5_0, x5_1, k1, k2, k3, k4⟩ := c5 h; exact ptr_new k1 k3)⟩
    case s5r3 =>
      rintro L u W ⟨hB, c0, c1, c2, c3, c4, d6, c5, d7, y4_5⟩ hf hd K hK
      dsimp only at hK
      go_simp
      have hb : Below W.heap.size W (W.alloc (.cells #[.int .i64 0, .int .i64 0] 23)) := (Below.refl _ W).alloc (Nat.le_refl _) _
      refine hK _ _ ?_ (fun h => by cases h)
      intro s hs
      cases hs
      exact ⟨hB.trans (hb.mono hB.size), c0, c1, c2, c3, (fun h => by obtain ⟨g, x4_0, x4_1, k1, k2, k3, k4⟩ := c4 h; exact ⟨g, x4_0, x4_1, k1, k2, k3.keep hb, k4⟩), d6, (fun _ => ⟨_, _, _, rfl, hB.size, Lok.new _ _ _, fun h => absurd (d7 h) (by rw [hf]; decide)⟩), (fun _ => rfl), (fun h _ => by obtain ⟨g, x4_0, x4_1, k1, k2, k3, k4⟩ := c4 h; exact ptr_new2 k1 k3)⟩
    case s6r3 =>
      rintro L u W ⟨hB, c0, c1, c2, c3, c4, d6, c5, d7, y4_5⟩ hf hd K hK
      dsimp only at hK
      have hd4 : L 4 = true := hd ⟨4, .data⟩ (by simp) rfl
      have hd0 : L 0 = true := (by first | (refine hd ⟨0, .data⟩ ?_ rfl; simp; done) | (refine hd ⟨0, .guard⟩ ?_ rfl; simp; done) | (refine hd ⟨0, .phase⟩ ?_ rfl; simp; done) | (refine hd ⟨0, .chain⟩ ?_ rfl; simp; done))
      obtain ⟨g, x4_0, x4_1, e4, k2, k3, k4⟩ := c4 hd4
      rw [e4] at hK
      have e0 := c0 hd0
      rw [e0] at hK
      have t0 := k3.cell (i := 0) rfl
      have f0 := k3.frozen 0
      have t1 := k3.cell (i := 1) rfl
      have f1 := k3.frozen 1
      have HH := Lib.hid (And.intro trivial trivial)
      clear hd
      have hd4' := Lib.hid hd4
      clear hd4
      have hd0' := Lib.hid hd0
      clear hd0
      go_simp
      have hd4 := hd4'.out
      have hd0 := hd0'.out
      have hlok := (k3.set (i := 0) (v := .int .i64 x)).set (i := 1) (v := .int .i64 y)
      refine hK undef _ (fun s h => by cases h) (fun _ => ?_)
      exact ⟨(hB.setCell k2 _).setCell k2 _, (fun _ => rfl), c1, c2, c3, (fun _ => ⟨g, _, _, rfl, k2, hlok, fun _ => ⟨rfl, rfl⟩⟩), (fun _ => hd4), (fun h => by obtain ⟨g2, x5_0, x5_1, m1, m2, m3, m4⟩ := c5 h; have hne := ptr_apart (y4_5 hd4 h) e4 m1; exact ⟨g2, x5_0, x5_1, m1, m2, (m3.far hne).far hne, m4⟩), d7, (fun h1 h2 => by first | exact y4_5 h1 h2 | (rw [← e4]; exact y4_5 h1 h2))⟩
    case s7r3 =>
      rintro L u W ⟨hB, c0, c1, c2, c3, c4, d6, c5, d7, y4_5⟩ hf hd K hK
      dsimp only at hK
      have hd5 : L 5 = true := hd ⟨5, .data⟩ (by simp) rfl
      have hd3 : L 3 = true := (by first | (refine hd ⟨3, .data⟩ ?_ rfl; simp; done) | (refine hd ⟨3, .guard⟩ ?_ rfl; simp; done) | (refine hd ⟨3, .phase⟩ ?_ rfl; simp; done) | (refine hd ⟨3, .chain⟩ ?_ rfl; simp; done))
      obtain ⟨g, x5_0, x5_1, e5, k2, k3, k4⟩ := c5 hd5
      rw [e5] at hK
      have e3 := c3 hd3
      rw [e3] at hK
      have t0 := k3.cell (i := 0) rfl
      have f0 := k3.frozen 0
      have t1 := k3.cell (i := 1) rfl
      have f1 := k3.frozen 1
      have HH := Lib.hid (And.intro trivial trivial)
      clear hd
      have hd5' := Lib.hid hd5
      clear hd5
      have hd3' := Lib.hid hd3
      clear hd3
      go_simp
      have hd5 := hd5'.out
      have hd3 := hd3'.out
      have hlok := (k3.set (i := 0) (v := .int .i64 d1)).set (i := 1) (v := .int .i64 d2)
      refine hK undef _ (fun s h => by cases h) (fun _ => ?_)
      exact ⟨(hB.setCell k2 _).setCell k2 _, c0, c1, c2, (fun _ => rfl), (fun h => by obtain ⟨g2, x4_0, x4_1, m1, m2, m3, m4⟩ := c4 h; have hne := ptr_apart2 (y4_5 h hd5) m1 e5; exact ⟨g2, x4_0, x4_1, m1, m2, (m3.far hne).far hne, m4⟩), d6, (fun _ => ⟨g, _, _, rfl, k2, hlok, fun _ => ⟨rfl, rfl⟩⟩), (fun _ => hd5), (fun h1 h2 => by first | exact y4_5 h1 h2 | (rw [← e5]; exact y4_5 h1 h2))⟩
  case finr3 =>
    rintro L u W hL ⟨hB, c0, c1, c2, c3, c4, d6, c5, d7, y4_5⟩
    have e0 := c0 (hL 0 (by decide))
    have e1 := c1 (hL 1 (by decide))
    have e2 := c2 (hL 2 (by decide))
    have e3 := c3 (hL 3 (by decide))
    obtain ⟨g4, x4_0, x4_1, e4, hg4, hlok4, hst4⟩ := c4 (hL 4 (by decide))
    obtain ⟨rfl, rfl⟩ := hst4 (hL 6 (by decide))
    clear hst4
    obtain ⟨g5, x5_0, x5_1, e5, hg5, hlok5, hst5⟩ := c5 (hL 5 (by decide))
    obtain ⟨rfl, rfl⟩ := hst5 (hL 7 (by decide))
    clear hst5
    clear hL c0 c1 c2 c3 c4 d6 c5 d7 y4_5
    try simp only [e0, e1, e2, e3, e4, e5]
    clear e0 e1 e2 e3 e4 e5
    have HB := Lib.hid (HB.out.trans (hB.mono HB.out.size))
    have kx := Lib.hid (kx.out.keep hB)
    have kp := Lib.hid (kp.out.keep hB)
    have kq := Lib.hid (kq.out.keep hB)
    have kr := Lib.hid (kr.out.keep hB)
    have ks := Lib.hid (ks.out.keep hB)
    have km := Lib.hid hlok4
    have kd := Lib.hid hlok5
    have hsz := hB.size
    clear hlok4 hlok5 hB
    go_upto_region 2 with fail
    have qp0 : ∀ D : Of (PastV W), _ := fun D => (kp.out.keep (show Below W.heap.size W D.world from D.holds)).cell (i := 0) rfl
    have qp1 : ∀ D : Of (PastV W), _ := fun D => (kp.out.keep (show Below W.heap.size W D.world from D.holds)).cell (i := 1) rfl
    have qm0 : ∀ D : Of (PastV W), _ := fun D => (km.out.keep (show Below W.heap.size W D.world from D.holds)).cell (i := 0) rfl
    have qm1 : ∀ D : Of (PastV W), _ := fun D => (km.out.keep (show Below W.heap.size W D.world from D.holds)).cell (i := 1) rfl
    have qd0 : ∀ D : Of (PastV W), _ := fun D => (kd.out.keep (show Below W.heap.size W D.world from D.holds)).cell (i := 0) rfl
    have qd1 : ∀ D : Of (PastV W), _ := fun D => (kd.out.keep (show Below W.heap.size W D.world from D.holds)).cell (i := 1) rfl
    have ST := Lib.hid (pastV_stays W)
    have ne : Nonempty (Of (PastV W)) := ⟨⟨W, Below.refl _ _⟩⟩
    refine wp_region_class (S := PastV W) (by kernel_rfl) (by kernel_rfl) (Below.refl _ _).drew ?_
    repeat (go_big_quiet_step (first | (go_at_call 43; first | (with_reducible exact class_call ST.out _ (U2.out _))) | (go_at_call 44; first | (with_reducible exact class_call ST.out _ (D1.out _)) | (with_reducible exact class_call ST.out _ (D2.out _)))))
    refine wpQuiet_nil ?_
    rintro _ ⟨D, rfl⟩
    have hD : Below W.heap.size W D.world := D.holds
    have hsD := hD.size
    replace HB := Lib.hid (HB.out.trans (hD.mono HB.out.size))
    replace kx := Lib.hid (kx.out.keep hD)
    replace kp := Lib.hid (kp.out.keep hD)
    replace kq := Lib.hid (kq.out.keep hD)
    replace kr := Lib.hid (kr.out.keep hD)
    replace ks := Lib.hid (ks.out.keep hD)
    replace km := Lib.hid (km.out.keep hD)
    replace kd := Lib.hid (kd.out.keep hD)
    generalize D.world = vd at *
    clear qp0 qp1 qm0 qm1 qd0 qd1 ne ST hD
    have lm := km.out.lt
    have ld := kd.out.lt
    go_upto_region 4 with fail
    have hbound : w.heap.size + 3 ≤ vd.heap.size := by omega
    have o4 := kr.out
    have o6 := ks.out
    have l1 := kp.out
    have l2 := km.out
    refine wp_region_rel (by kernel_rfl) [30, 31, 32, 33, 7] ?Fr1 ?hFr1
      (fun L u W => Below (w.heap.size + 3) vd W ∧ (L 0 = true → u 30 = .agg #[.int .i64 a1, .int .i64 a2]) ∧ (L 1 = true → u 31 = .agg #[.int .i64 x, .int .i64 y]) ∧ (L 2 = true → u 32 = .agg #[.int .i64 a1, .int .i64 a2]) ∧ (L 3 = true → u 33 = .agg #[.int .i64 n0, .int .i64 1]) ∧ (L 5 = true → u 7 = .int .i64 0) ∧ (L 4 = false → Lok W (w.heap.size + 3) 23 #[.int .i64 0, .int .i64 0]) ∧ (L 4 = true → Lok W (w.heap.size + 3) 23 #[.int .i64 a1, .int .i64 a2]) ∧ (L 6 = false → Lok W (w.heap.size + 4) 29 #[.int .i64 0, .int .i64 0]) ∧ (L 6 = true → Lok W (w.heap.size + 4) 29 #[.int .i64 n0, .int .i64 1]) ∧ Lok W (w.heap.size + 1) 23 #[.int .i64 a1, .int .i64 a2] ∧ Lok W (g4) 23 #[.int .i64 x, .int .i64 y]) (by kernel_rfl) (by kernel_rfl) 7 rfl ?h0r1 ?stepr1 ?finr1
    case hFr1 => intro u; simp only [putAll, Act.put, List.setIfInBounds_toArray, List.set]; exact rfl
    case h0r1 => intro L u hL; exact ⟨(Below.refl _ _).drew, (fun h => by simp [hL] at h), (fun h => by simp [hL] at h), (fun h => by simp [hL] at h), (fun h => by simp [hL] at h), (fun h => by simp [hL] at h), (fun _ => by assumption), (fun h => by simp [hL] at h), (fun _ => by assumption), (fun h => by simp [hL] at h), (by first | assumption | (apply Lok.drew; assumption)), (by first | assumption | (apply Lok.drew; assumption))⟩
    case stepr1 =>
      refine ops_all (ops_cons ?s0r1 (ops_cons ?s1r1 (ops_cons ?s2r1 (ops_cons ?s3r1 (ops_cons ?s4r1 (ops_cons ?s5r1 (ops_cons ?s6r1 (ops_nil))))))))
      case s0r1 =>
        rintro L u W ⟨hB, c0, c1, c2, c3, c5, o4, wn4, o6, wn6, lk1, lk2⟩ hf hd K hK
        dsimp only at hK
        have t0 := lk1.cell (i := 0) rfl
        have t1 := lk1.cell (i := 1) rfl
        clear hd
        go_simp
        refine hK _ _ ?_ (fun h => by cases h)
        intro s hs
        cases hs
        exact ⟨hB, (fun _ => rfl), c1, c2, c3, c5, o4, wn4, o6, wn6, lk1, lk2⟩
      case s1r1 =>
        rintro L u W ⟨hB, c0, c1, c2, c3, c5, o4, wn4, o6, wn6, lk1, lk2⟩ hf hd K hK
        dsimp only at hK
        have t0 := lk2.cell (i := 0) rfl
        have t1 := lk2.cell (i := 1) rfl
        clear hd
        go_simp
        refine hK _ _ ?_ (fun h => by cases h)
        intro s hs
        cases hs
        exact ⟨hB, c0, (fun _ => rfl), c2, c3, c5, o4, wn4, o6, wn6, lk1, lk2⟩
      case s2r1 =>
        rintro L u W ⟨hB, c0, c1, c2, c3, c5, o4, wn4, o6, wn6, lk1, lk2⟩ hf hd K hK
        dsimp only at hK
        have t0 := lk1.cell (i := 0) rfl
        have t1 := lk1.cell (i := 1) rfl
        clear hd
        go_simp
        refine hK _ _ ?_ (fun h => by cases h)
        intro s hs
        cases hs
        exact ⟨hB, c0, c1, (fun _ => rfl), c3, c5, o4, wn4, o6, wn6, lk1, lk2⟩
      case s3r1 =>
        rintro L u W ⟨hB, c0, c1, c2, c3, c5, o4, wn4, o6, wn6, lk1, lk2⟩ hf hd K hK
        dsimp only at hK
        have hd1 : L 1 = true := (by first | (refine hd ⟨1, .data⟩ ?_ rfl; simp; done) | (refine hd ⟨1, .guard⟩ ?_ rfl; simp; done) | (refine hd ⟨1, .phase⟩ ?_ rfl; simp; done) | (refine hd ⟨1, .chain⟩ ?_ rfl; simp; done))
        have hd2 : L 2 = true := (by first | (refine hd ⟨2, .data⟩ ?_ rfl; simp; done) | (refine hd ⟨2, .guard⟩ ?_ rfl; simp; done) | (refine hd ⟨2, .phase⟩ ?_ rfl; simp; done) | (refine hd ⟨2, .chain⟩ ?_ rfl; simp; done))
        have e1 := c1 hd1
        rw [e1] at hK
        have e2 := c2 hd2
        rw [e2] at hK
        clear hd1
        clear hd2
        clear hd
        go_simp
        go_wp2_with (go_at_call 45; ((with_reducible refine (Q.out _).mono ?_); rintro e w5 ⟨rfl, hb⟩))
        refine hK _ _ ?_ (fun h => by cases h)
        intro s hs
        cases hs
        exact ⟨hB.trans (hb.mono (Nat.le_trans hbound hB.size)), c0, c1, c2, (fun _ => rfl), c5, (fun h => (o4 h).keep hb), (fun h => (wn4 h).keep hb), (fun h => (o6 h).keep hb), (fun h => (wn6 h).keep hb), (lk1.keep hb), (lk2.keep hb)⟩
      case s4r1 =>
        rintro L u W ⟨hB, c0, c1, c2, c3, c5, o4, wn4, o6, wn6, lk1, lk2⟩ hf hd K hK
        dsimp only at hK
        have hd0 : L 0 = true := (by first | (refine hd ⟨0, .data⟩ ?_ rfl; simp; done) | (refine hd ⟨0, .phase⟩ ?_ rfl; simp; done))
        have k3 := o4 hf
        have e0 := c0 hd0
        rw [e0] at hK
        have t0 := k3.cell (i := 0) rfl
        have f0 := k3.frozen 0
        have t1 := k3.cell (i := 1) rfl
        have f1 := k3.frozen 1
        clear hd
        have hd0' := Lib.hid hd0
        clear hd0
        go_simp
        have hd0 := hd0'.out
        have hlok := (k3.set (i := 0) (v := .int .i64 a1)).set (i := 1) (v := .int .i64 a2)
        refine hK undef _ (fun s h => by cases h) (fun _ => ?_)
        exact ⟨(hB.setCell (by first | exact Nat.le_refl _ | assumption | (show _ ≤ _; omega) | (show ((w.heap.size + 3)) ≤ (w.heap.size + 3); omega)) _).setCell (by first | exact Nat.le_refl _ | assumption | (show _ ≤ _; omega) | (show ((w.heap.size + 3)) ≤ (w.heap.size + 3); omega)) _, (fun _ => rfl), c1, c2, c3, c5, (fun h => by cases h), (fun _ => hlok), (fun h => (((o6 h).far (by first | assumption | omega)).far (by first | assumption | omega))), (fun h => (((wn6 h).far (by first | assumption | omega)).far (by first | assumption | omega))), ((lk1.far (by first | assumption | omega)).far (by first | assumption | omega)), ((lk2.far (by first | assumption | omega)).far (by first | assumption | omega))⟩
      case s5r1 =>
        rintro L u W ⟨hB, c0, c1, c2, c3, c5, o4, wn4, o6, wn6, lk1, lk2⟩ hf hd K hK
        dsimp only at hK
        clear hd
        go_simp
        refine hK _ _ ?_ (fun h => by cases h)
        intro s hs
        cases hs
        exact ⟨hB, c0, c1, c2, c3, (fun _ => rfl), o4, wn4, o6, wn6, lk1, lk2⟩
      case s6r1 =>
        rintro L u W ⟨hB, c0, c1, c2, c3, c5, o4, wn4, o6, wn6, lk1, lk2⟩ hf hd K hK
        dsimp only at hK
        have hd3 : L 3 = true := (by first | (refine hd ⟨3, .data⟩ ?_ rfl; simp; done) | (refine hd ⟨3, .phase⟩ ?_ rfl; simp; done))
        have k3 := o6 hf
        have e3 := c3 hd3
        rw [e3] at hK
        have t0 := k3.cell (i := 0) rfl
        have f0 := k3.frozen 0
        have t1 := k3.cell (i := 1) rfl
        have f1 := k3.frozen 1
        clear hd
        have hd3' := Lib.hid hd3
        clear hd3
        go_simp
        have hd3 := hd3'.out
        have hlok := (k3.set (i := 0) (v := .int .i64 n0)).set (i := 1) (v := .int .i64 1)
        refine hK undef _ (fun s h => by cases h) (fun _ => ?_)
        exact ⟨(hB.setCell (by first | exact Nat.le_refl _ | assumption | (show _ ≤ _; omega) | (show ((w.heap.size + 3)) ≤ (w.heap.size + 4); omega)) _).setCell (by first | exact Nat.le_refl _ | assumption | (show _ ≤ _; omega) | (show ((w.heap.size + 3)) ≤ (w.heap.size + 4); omega)) _, c0, c1, c2, (fun _ => rfl), c5, (fun h => (((o4 h).far (by first | assumption | omega)).far (by first | assumption | omega))), (fun h => (((wn4 h).far (by first | assumption | omega)).far (by first | assumption | omega))), (fun h => by cases h), (fun _ => hlok), ((lk1.far (by first | assumption | omega)).far (by first | assumption | omega)), ((lk2.far (by first | assumption | omega)).far (by first | assumption | omega))⟩
    case finr1 =>
      rintro L u W hL ⟨hB, c0, c1, c2, c3, c5, o4, wn4, o6, wn6, lk1, lk2⟩
      have e0 := c0 (hL 0 (by decide))
      have e1 := c1 (hL 1 (by decide))
      have e2 := c2 (hL 2 (by decide))
      have e3 := c3 (hL 3 (by decide))
      have e5 := c5 (hL 5 (by decide))
      have hlok4 := wn4 (hL 4 (by decide))
      have hlok6 := wn6 (hL 6 (by decide))
      clear hL c0 c1 c2 c3 c5 o4 wn4 o6 wn6
      try simp only [e0, e1, e2, e3, e5]
      clear e0 e1 e2 e3 e5
      have z0 := hlok4.cell (i := 0) rfl
      have z1 := hlok4.cell (i := 1) rfl
      have z2 := hlok6.cell (i := 0) rfl
      have z3 := hlok6.cell (i := 1) rfl
      go_wp2_with fail
      exact bodyPost_ret (v := .tuple #[.agg #[.int .i64 a1, .int .i64 a2], .int .i64 0, .agg #[.int .i64 n0, .int .i64 1]]) (by simp [results, Try.results22, go_sem, z0, z1, z2, z3]) rfl ⟨rfl, HB.out.trans (hB.mono (by omega))⟩
set_option maxRecDepth 100000 in
set_option maxHeartbeats 4000000 in
theorem foot_1 (x y a1 a2 b1 b2 : Int) (hm : 0 < em x y a1 a2 b1 b2) (hn : sq a1 a2 b1 b2 ≤ em x y a1 a2 b1 b2)
    (hp : s2 x y = true) (ha : s2 a1 a2 = true) (hb : s2 b1 b2 = true) (w : World) :
    Calls Try.prog 22 #[.agg #[.int .i64 x, .int .i64 y], .agg #[.int .i64 a1, .int .i64 a2], .agg #[.int .i64 b1, .int .i64 b2]] w fun e' w' => e' = .returned (.tuple #[.agg #[.int .i64 b1, .int .i64 b2], .int .i64 1, .agg #[.int .i64 (sq x y b1 b2), .int .i64 1]]) ∧ Below w.heap.size w w' := by
  have HB := Lib.hid (Below.refl w.heap.size w)
  have U1 := Lib.hid (fun W => sub2_sm ha hb W)
  have U2 := Lib.hid (fun W => sub2_sm ha hp W)
  obtain ⟨hp1, hp2⟩ := s2_iff.1 hp
  obtain ⟨ha1, ha2⟩ := s2_iff.1 ha
  obtain ⟨hb1, hb2⟩ := s2_iff.1 hb
  have D1 := Lib.hid (fun W => ndot_any (x - a1) (y - a2) (b1 - a1) (b2 - a2) (dif_sm hp1 ha1) (dif_sm hp2 ha2) (dif_sm hb1 ha1) (dif_sm hb2 ha2) W)
  have D2 := Lib.hid (fun W => ndot_any (b1 - a1) (b2 - a2) (b1 - a1) (b2 - a2) (dif_sm hb1 ha1) (dif_sm hb2 ha2) (dif_sm hb1 ha1) (dif_sm hb2 ha2) W)
  rw [show (x - a1) * (b1 - a1) + (y - a2) * (b2 - a2) = em x y a1 a2 b1 b2 from rfl] at D1
  rw [show (b1 - a1) * (b1 - a1) + (b2 - a2) * (b2 - a2) = sq a1 a2 b1 b2 from rfl] at D2
  have Q := Lib.hid (fun W => apart_any x y b1 b2 hp hb W)
  generalize sq x y b1 b2 = n0 at *
  generalize em x y a1 a2 b1 b2 = m at *
  generalize sq a1 a2 b1 b2 = n at *
  generalize hd1 : b1 - a1 = d1 at *
  generalize hd2 : b2 - a2 = d2 at *
  generalize hc1 : x - a1 = c1 at *
  generalize hc2 : y - a2 = c2 at *
  clear hp ha hb hp1 hp2 ha1 ha2 hb1 hb2 hd1 hd2 hc1 hc2
  go_enter Try.func22, Try.ntmps22
  go_upto_region 1 with fail
  have hbx := below_new1 w (.cells #[.int .i64 x, .int .i64 y] 53)
  have zx : (w.alloc (.cells #[.int .i64 x, .int .i64 y] 53)).heap.size = w.heap.size + 1 := by simp
  have HB := Lib.hid hbx
  have kx := Lib.hid (Lok.new w 53 #[.int .i64 x, .int .i64 y])
  clear hbx
  generalize w.alloc (.cells #[.int .i64 x, .int .i64 y] 53) = Vx at *
  have hbp := below_new1 Vx (.cells #[.int .i64 a1, .int .i64 a2] 23)
  replace kx := Lib.hid (kx.out.keep hbp)
  have zp : (Vx.alloc (.cells #[.int .i64 a1, .int .i64 a2] 23)).heap.size = Vx.heap.size + 1 := by simp
  replace HB := Lib.hid (HB.out.trans (hbp.mono HB.out.size))
  have kp := Lib.hid (Lok.new Vx 23 #[.int .i64 a1, .int .i64 a2])
  clear hbp
  generalize Vx.alloc (.cells #[.int .i64 a1, .int .i64 a2] 23) = Vp at *
  rw [zx] at kp zp
  have hbq := below_new1 Vp (.cells #[.int .i64 b1, .int .i64 b2] 23)
  replace kx := Lib.hid (kx.out.keep hbq)
  replace kp := Lib.hid (kp.out.keep hbq)
  have zq : (Vp.alloc (.cells #[.int .i64 b1, .int .i64 b2] 23)).heap.size = Vp.heap.size + 1 := by simp
  replace HB := Lib.hid (HB.out.trans (hbq.mono HB.out.size))
  have kq := Lib.hid (Lok.new Vp 23 #[.int .i64 b1, .int .i64 b2])
  clear hbq
  generalize Vp.alloc (.cells #[.int .i64 b1, .int .i64 b2] 23) = Vq at *
  rw [zp] at kq zq
  have hbr := below_new1 Vq (.cells #[.int .i64 0, .int .i64 0] 23)
  replace kx := Lib.hid (kx.out.keep hbr)
  replace kp := Lib.hid (kp.out.keep hbr)
  replace kq := Lib.hid (kq.out.keep hbr)
  have zr : (Vq.alloc (.cells #[.int .i64 0, .int .i64 0] 23)).heap.size = Vq.heap.size + 1 := by simp
  replace HB := Lib.hid (HB.out.trans (hbr.mono HB.out.size))
  have kr := Lib.hid (Lok.new Vq 23 #[.int .i64 0, .int .i64 0])
  clear hbr
  generalize Vq.alloc (.cells #[.int .i64 0, .int .i64 0] 23) = Vr at *
  rw [zq] at kr zr
  have hbs := below_new1 Vr (.cells #[.int .i64 0, .int .i64 0] 29)
  replace kx := Lib.hid (kx.out.keep hbs)
  replace kp := Lib.hid (kp.out.keep hbs)
  replace kq := Lib.hid (kq.out.keep hbs)
  replace kr := Lib.hid (kr.out.keep hbs)
  have zs : (Vr.alloc (.cells #[.int .i64 0, .int .i64 0] 29)).heap.size = Vr.heap.size + 1 := by simp
  replace HB := Lib.hid (HB.out.trans (hbs.mono HB.out.size))
  have ks := Lib.hid (Lok.new Vr 29 #[.int .i64 0, .int .i64 0])
  clear hbs
  generalize Vr.alloc (.cells #[.int .i64 0, .int .i64 0] 29) = Vs at *
  rw [zr] at ks
  clear zx zp zq zr zs
  have lt0 := kx.out.lt
  have lt1 := kp.out.lt
  have lt2 := kq.out.lt
  have lt3 := kr.out.lt
  have lt4 := ks.out.lt
  refine wp_region_rel (by kernel_rfl) [16, 17, 18, 19, 9, 10] ?Fr4 ?hFr4
    (fun L u W => Below Vs.heap.size Vs W ∧ (L 0 = true → u 16 = .agg #[.int .i64 x, .int .i64 y]) ∧ (L 1 = true → u 17 = .agg #[.int .i64 b1, .int .i64 b2]) ∧ (L 2 = true → u 18 = .agg #[.int .i64 a1, .int .i64 a2]) ∧ (L 3 = true → u 19 = .agg #[.int .i64 d1, .int .i64 d2]) ∧ (L 4 = true → ∃ (g : Nat) (x4_0 x4_1 : Value), u 9 = .pointer (some ⟨g, 0, none⟩) ∧ Vs.heap.size ≤ g ∧ Lok W g 23 #[x4_0, x4_1] ∧ (L 6 = true → x4_0 = .int .i64 x ∧ x4_1 = .int .i64 y)) ∧ (L 6 = true → L 4 = true) ∧ (L 5 = true → ∃ (g : Nat) (x5_0 x5_1 : Value), u 10 = .pointer (some ⟨g, 0, none⟩) ∧ Vs.heap.size ≤ g ∧ Lok W g 23 #[x5_0, x5_1] ∧ (L 7 = true → x5_0 = .int .i64 d1 ∧ x5_1 = .int .i64 d2)) ∧ (L 7 = true → L 5 = true) ∧ (L 4 = true → L 5 = true → u 9 ≠ u 10)) (by kernel_rfl) (by kernel_rfl) 8 rfl ?h0r4 ?stepr4 ?finr4
  case hFr4 => intro u; simp only [putAll, Act.put, List.setIfInBounds_toArray, List.set]; exact rfl
  case h0r4 => intro L u hL; exact ⟨(Below.refl _ _).drew, (fun h => by simp [hL] at h), (fun h => by simp [hL] at h), (fun h => by simp [hL] at h), (fun h => by simp [hL] at h), (fun h => by simp [hL] at h), (fun h => by simp [hL] at h), (fun h => by simp [hL] at h), (fun h => by simp [hL] at h), (fun h => by simp [hL] at h)⟩
  case stepr4 =>
    refine ops_all (ops_cons ?s0r4 (ops_cons ?s1r4 (ops_cons ?s2r4 (ops_cons ?s3r4 (ops_cons ?s4r4 (ops_cons ?s5r4 (ops_cons ?s6r4 (ops_cons ?s7r4 (ops_nil)))))))))
    case s0r4 =>
      rintro L u W ⟨hB, c0, c1, c2, c3, c4, d6, c5, d7, y4_5⟩ hf hd K hK
      dsimp only at hK
      have t0 := (kx.out.keep hB).cell (i := 0) rfl
      have t1 := (kx.out.keep hB).cell (i := 1) rfl
      clear hd
      go_simp
      refine hK _ _ ?_ (fun h => by cases h)
      intro s hs
      cases hs
      exact ⟨hB, (fun _ => rfl), c1, c2, c3, c4, d6, c5, d7, y4_5⟩
    case s1r4 =>
      rintro L u W ⟨hB, c0, c1, c2, c3, c4, d6, c5, d7, y4_5⟩ hf hd K hK
      dsimp only at hK
      have t0 := (kq.out.keep hB).cell (i := 0) rfl
      have t1 := (kq.out.keep hB).cell (i := 1) rfl
      clear hd
      go_simp
      refine hK _ _ ?_ (fun h => by cases h)
      intro s hs
      cases hs
      exact ⟨hB, c0, (fun _ => rfl), c2, c3, c4, d6, c5, d7, y4_5⟩
    case s2r4 =>
      rintro L u W ⟨hB, c0, c1, c2, c3, c4, d6, c5, d7, y4_5⟩ hf hd K hK
      dsimp only at hK
      have t0 := (kp.out.keep hB).cell (i := 0) rfl
      have t1 := (kp.out.keep hB).cell (i := 1) rfl
      clear hd
      go_simp
      refine hK _ _ ?_ (fun h => by cases h)
      intro s hs
      cases hs
      exact ⟨hB, c0, c1, (fun _ => rfl), c3, c4, d6, c5, d7, y4_5⟩
    case s3r4 =>
      rintro L u W ⟨hB, c0, c1, c2, c3, c4, d6, c5, d7, y4_5⟩ hf hd K hK
      dsimp only at hK
      have hd1 : L 1 = true := (by first | (refine hd ⟨1, .data⟩ ?_ rfl; simp; done) | (refine hd ⟨1, .guard⟩ ?_ rfl; simp; done) | (refine hd ⟨1, .phase⟩ ?_ rfl; simp; done) | (refine hd ⟨1, .chain⟩ ?_ rfl; simp; done))
      have hd2 : L 2 = true := (by first | (refine hd ⟨2, .data⟩ ?_ rfl; simp; done) | (refine hd ⟨2, .guard⟩ ?_ rfl; simp; done) | (refine hd ⟨2, .phase⟩ ?_ rfl; simp; done) | (refine hd ⟨2, .chain⟩ ?_ rfl; simp; done))
      have e1 := c1 hd1
      rw [e1] at hK
      have e2 := c2 hd2
      rw [e2] at hK
      clear hd1
      clear hd2
      clear hd
      go_simp
      go_wp2_with (go_at_call 43; ((with_reducible refine (U1.out _).mono ?_); rintro e w5 ⟨rfl, hb⟩))
      refine hK _ _ ?_ (fun h => by cases h)
      intro s hs
      cases hs
      exact ⟨hB.trans (hb.mono hB.size), c0, c1, c2, (fun _ => rfl), (fun h => by obtain ⟨g, x4_0, x4_1, k1, k2, k3, k4⟩ := c4 h; exact ⟨g, x4_0, x4_1, k1, k2, k3.keep hb, k4⟩), d6, (fun h => by obtain ⟨g, x5_0, x5_1, k1, k2, k3, k4⟩ := c5 h; exact ⟨g, x5_0, x5_1, k1, k2, k3.keep hb, k4⟩), d7, y4_5⟩
    case s4r4 =>
      rintro L u W ⟨hB, c0, c1, c2, c3, c4, d6, c5, d7, y4_5⟩ hf hd K hK
      dsimp only at hK
      go_simp
      have hb : Below W.heap.size W (W.alloc (.cells #[.int .i64 0, .int .i64 0] 23)) := (Below.refl _ W).alloc (Nat.le_refl _) _
      refine hK _ _ ?_ (fun h => by cases h)
      intro s hs
      cases hs
      exact ⟨hB.trans (hb.mono hB.size), c0, c1, c2, c3, (fun _ => ⟨_, _, _, rfl, hB.size, Lok.new _ _ _, fun h => absurd (d6 h) (by rw [hf]; decide)⟩), (fun _ => rfl), (fun h => by obtain ⟨g, x5_0, x5_1, k1, k2, k3, k4⟩ := c5 h; exact ⟨g, x5_0, x5_1, k1, k2, k3.keep hb, k4⟩), d7, (fun _ h => by obtain ⟨g, x5_0, x5_1, k1, k2, k3, k4⟩ := c5 h; exact ptr_new k1 k3)⟩
    case s5r4 =>
      rintro L u W ⟨hB, c0, c1, c2, c3, c4, d6, c5, d7, y4_5⟩ hf hd K hK
      dsimp only at hK
      go_simp
      have hb : Below W.heap.size W (W.alloc (.cells #[.int .i64 0, .int .i64 0] 23)) := (Below.refl _ W).alloc (Nat.le_refl _) _
      refine hK _ _ ?_ (fun h => by cases h)
      intro s hs
      cases hs
      exact ⟨hB.trans (hb.mono hB.size), c0, c1, c2, c3, (fun h => by obtain ⟨g, x4_0, x4_1, k1, k2, k3, k4⟩ := c4 h; exact ⟨g, x4_0, x4_1, k1, k2, k3.keep hb, k4⟩), d6, (fun _ => ⟨_, _, _, rfl, hB.size, Lok.new _ _ _, fun h => absurd (d7 h) (by rw [hf]; decide)⟩), (fun _ => rfl), (fun h _ => by obtain ⟨g, x4_0, x4_1, k1, k2, k3, k4⟩ := c4 h; exact ptr_new2 k1 k3)⟩
    case s6r4 =>
      rintro L u W ⟨hB, c0, c1, c2, c3, c4, d6, c5, d7, y4_5⟩ hf hd K hK
      dsimp only at hK
      have hd4 : L 4 = true := hd ⟨4, .data⟩ (by simp) rfl
      have hd0 : L 0 = true := (by first | (refine hd ⟨0, .data⟩ ?_ rfl; simp; done) | (refine hd ⟨0, .guard⟩ ?_ rfl; simp; done) | (refine hd ⟨0, .phase⟩ ?_ rfl; simp; done) | (refine hd ⟨0, .chain⟩ ?_ rfl; simp; done))
      obtain ⟨g, x4_0, x4_1, e4, k2, k3, k4⟩ := c4 hd4
      rw [e4] at hK
      have e0 := c0 hd0
      rw [e0] at hK
      have t0 := k3.cell (i := 0) rfl
      have f0 := k3.frozen 0
      have t1 := k3.cell (i := 1) rfl
      have f1 := k3.frozen 1
      have HH := Lib.hid (And.intro trivial trivial)
      clear hd
      have hd4' := Lib.hid hd4
      clear hd4
      have hd0' := Lib.hid hd0
      clear hd0
      go_simp
      have hd4 := hd4'.out
      have hd0 := hd0'.out
      have hlok := (k3.set (i := 0) (v := .int .i64 x)).set (i := 1) (v := .int .i64 y)
      refine hK undef _ (fun s h => by cases h) (fun _ => ?_)
      exact ⟨(hB.setCell k2 _).setCell k2 _, (fun _ => rfl), c1, c2, c3, (fun _ => ⟨g, _, _, rfl, k2, hlok, fun _ => ⟨rfl, rfl⟩⟩), (fun _ => hd4), (fun h => by obtain ⟨g2, x5_0, x5_1, m1, m2, m3, m4⟩ := c5 h; have hne := ptr_apart (y4_5 hd4 h) e4 m1; exact ⟨g2, x5_0, x5_1, m1, m2, (m3.far hne).far hne, m4⟩), d7, (fun h1 h2 => by first | exact y4_5 h1 h2 | (rw [← e4]; exact y4_5 h1 h2))⟩
    case s7r4 =>
      rintro L u W ⟨hB, c0, c1, c2, c3, c4, d6, c5, d7, y4_5⟩ hf hd K hK
      dsimp only at hK
      have hd5 : L 5 = true := hd ⟨5, .data⟩ (by simp) rfl
      have hd3 : L 3 = true := (by first | (refine hd ⟨3, .data⟩ ?_ rfl; simp; done) | (refine hd ⟨3, .guard⟩ ?_ rfl; simp; done) | (refine hd ⟨3, .phase⟩ ?_ rfl; simp; done) | (refine hd ⟨3, .chain⟩ ?_ rfl; simp; done))
      obtain ⟨g, x5_0, x5_1, e5, k2, k3, k4⟩ := c5 hd5
      rw [e5] at hK
      have e3 := c3 hd3
      rw [e3] at hK
      have t0 := k3.cell (i := 0) rfl
      have f0 := k3.frozen 0
      have t1 := k3.cell (i := 1) rfl
      have f1 := k3.frozen 1
      have HH := Lib.hid (And.intro trivial trivial)
      clear hd
      have hd5' := Lib.hid hd5
      clear hd5
      have hd3' := Lib.hid hd3
      clear hd3
      go_simp
      have hd5 := hd5'.out
      have hd3 := hd3'.out
      have hlok := (k3.set (i := 0) (v := .int .i64 d1)).set (i := 1) (v := .int .i64 d2)
      refine hK undef _ (fun s h => by cases h) (fun _ => ?_)
      exact ⟨(hB.setCell k2 _).setCell k2 _, c0, c1, c2, (fun _ => rfl), (fun h => by obtain ⟨g2, x4_0, x4_1, m1, m2, m3, m4⟩ := c4 h; have hne := ptr_apart2 (y4_5 h hd5) m1 e5; exact ⟨g2, x4_0, x4_1, m1, m2, (m3.far hne).far hne, m4⟩), d6, (fun _ => ⟨g, _, _, rfl, k2, hlok, fun _ => ⟨rfl, rfl⟩⟩), (fun _ => hd5), (fun h1 h2 => by first | exact y4_5 h1 h2 | (rw [← e5]; exact y4_5 h1 h2))⟩
  case finr4 =>
    rintro L u W hL ⟨hB, c0, c1, c2, c3, c4, d6, c5, d7, y4_5⟩
    have e0 := c0 (hL 0 (by decide))
    have e1 := c1 (hL 1 (by decide))
    have e2 := c2 (hL 2 (by decide))
    have e3 := c3 (hL 3 (by decide))
    obtain ⟨g4, x4_0, x4_1, e4, hg4, hlok4, hst4⟩ := c4 (hL 4 (by decide))
    obtain ⟨rfl, rfl⟩ := hst4 (hL 6 (by decide))
    clear hst4
    obtain ⟨g5, x5_0, x5_1, e5, hg5, hlok5, hst5⟩ := c5 (hL 5 (by decide))
    obtain ⟨rfl, rfl⟩ := hst5 (hL 7 (by decide))
    clear hst5
    clear hL c0 c1 c2 c3 c4 d6 c5 d7 y4_5
    try simp only [e0, e1, e2, e3, e4, e5]
    clear e0 e1 e2 e3 e4 e5
    have HB := Lib.hid (HB.out.trans (hB.mono HB.out.size))
    have kx := Lib.hid (kx.out.keep hB)
    have kp := Lib.hid (kp.out.keep hB)
    have kq := Lib.hid (kq.out.keep hB)
    have kr := Lib.hid (kr.out.keep hB)
    have ks := Lib.hid (ks.out.keep hB)
    have km := Lib.hid hlok4
    have kd := Lib.hid hlok5
    have hsz := hB.size
    clear hlok4 hlok5 hB
    go_upto_region 2 with fail
    have qp0 : ∀ D : Of (PastV W), _ := fun D => (kp.out.keep (show Below W.heap.size W D.world from D.holds)).cell (i := 0) rfl
    have qp1 : ∀ D : Of (PastV W), _ := fun D => (kp.out.keep (show Below W.heap.size W D.world from D.holds)).cell (i := 1) rfl
    have qm0 : ∀ D : Of (PastV W), _ := fun D => (km.out.keep (show Below W.heap.size W D.world from D.holds)).cell (i := 0) rfl
    have qm1 : ∀ D : Of (PastV W), _ := fun D => (km.out.keep (show Below W.heap.size W D.world from D.holds)).cell (i := 1) rfl
    have qd0 : ∀ D : Of (PastV W), _ := fun D => (kd.out.keep (show Below W.heap.size W D.world from D.holds)).cell (i := 0) rfl
    have qd1 : ∀ D : Of (PastV W), _ := fun D => (kd.out.keep (show Below W.heap.size W D.world from D.holds)).cell (i := 1) rfl
    have ST := Lib.hid (pastV_stays W)
    have ne : Nonempty (Of (PastV W)) := ⟨⟨W, Below.refl _ _⟩⟩
    refine wp_region_class (S := PastV W) (by kernel_rfl) (by kernel_rfl) (Below.refl _ _).drew ?_
    repeat (go_big_quiet_step (first | (go_at_call 43; first | (with_reducible exact class_call ST.out _ (U2.out _))) | (go_at_call 44; first | (with_reducible exact class_call ST.out _ (D1.out _)) | (with_reducible exact class_call ST.out _ (D2.out _)))))
    refine wpQuiet_nil ?_
    rintro _ ⟨D, rfl⟩
    have hD : Below W.heap.size W D.world := D.holds
    have hsD := hD.size
    replace HB := Lib.hid (HB.out.trans (hD.mono HB.out.size))
    replace kx := Lib.hid (kx.out.keep hD)
    replace kp := Lib.hid (kp.out.keep hD)
    replace kq := Lib.hid (kq.out.keep hD)
    replace kr := Lib.hid (kr.out.keep hD)
    replace ks := Lib.hid (ks.out.keep hD)
    replace km := Lib.hid (km.out.keep hD)
    replace kd := Lib.hid (kd.out.keep hD)
    generalize D.world = vd at *
    clear qp0 qp1 qm0 qm1 qd0 qd1 ne ST hD
    have lm := km.out.lt
    have ld := kd.out.lt
    have nm : ¬ m ≤ 0 := by omega
    clear hm
    go_upto_region 6 with fail
    have hbound : w.heap.size + 3 ≤ vd.heap.size := by omega
    have o4 := kr.out
    have o6 := ks.out
    have l1 := kq.out
    have l2 := km.out
    refine wp_region_rel (by kernel_rfl) [37, 38, 39, 40, 7] ?Fr2 ?hFr2
      (fun L u W => Below (w.heap.size + 3) vd W ∧ (L 0 = true → u 37 = .agg #[.int .i64 b1, .int .i64 b2]) ∧ (L 1 = true → u 38 = .agg #[.int .i64 x, .int .i64 y]) ∧ (L 2 = true → u 39 = .agg #[.int .i64 b1, .int .i64 b2]) ∧ (L 3 = true → u 40 = .agg #[.int .i64 n0, .int .i64 1]) ∧ (L 5 = true → u 7 = .int .i64 1) ∧ (L 4 = false → Lok W (w.heap.size + 3) 23 #[.int .i64 0, .int .i64 0]) ∧ (L 4 = true → Lok W (w.heap.size + 3) 23 #[.int .i64 b1, .int .i64 b2]) ∧ (L 6 = false → Lok W (w.heap.size + 4) 29 #[.int .i64 0, .int .i64 0]) ∧ (L 6 = true → Lok W (w.heap.size + 4) 29 #[.int .i64 n0, .int .i64 1]) ∧ Lok W (w.heap.size + 2) 23 #[.int .i64 b1, .int .i64 b2] ∧ Lok W (g4) 23 #[.int .i64 x, .int .i64 y]) (by kernel_rfl) (by kernel_rfl) 7 rfl ?h0r2 ?stepr2 ?finr2
    case hFr2 => intro u; simp only [putAll, Act.put, List.setIfInBounds_toArray, List.set]; exact rfl
    case h0r2 => intro L u hL; exact ⟨(Below.refl _ _).drew, (fun h => by simp [hL] at h), (fun h => by simp [hL] at h), (fun h => by simp [hL] at h), (fun h => by simp [hL] at h), (fun h => by simp [hL] at h), (fun _ => by assumption), (fun h => by simp [hL] at h), (fun _ => by assumption), (fun h => by simp [hL] at h), (by first | assumption | (apply Lok.drew; assumption)), (by first | assumption | (apply Lok.drew; assumption))⟩
    case stepr2 =>
      refine ops_all (ops_cons ?s0r2 (ops_cons ?s1r2 (ops_cons ?s2r2 (ops_cons ?s3r2 (ops_cons ?s4r2 (ops_cons ?s5r2 (ops_cons ?s6r2 (ops_nil))))))))
      case s0r2 =>
        rintro L u W ⟨hB, c0, c1, c2, c3, c5, o4, wn4, o6, wn6, lk1, lk2⟩ hf hd K hK
        dsimp only at hK
        have t0 := lk1.cell (i := 0) rfl
        have t1 := lk1.cell (i := 1) rfl
        clear hd
        go_simp
        refine hK _ _ ?_ (fun h => by cases h)
        intro s hs
        cases hs
        exact ⟨hB, (fun _ => rfl), c1, c2, c3, c5, o4, wn4, o6, wn6, lk1, lk2⟩
      case s1r2 =>
        rintro L u W ⟨hB, c0, c1, c2, c3, c5, o4, wn4, o6, wn6, lk1, lk2⟩ hf hd K hK
        dsimp only at hK
        have t0 := lk2.cell (i := 0) rfl
        have t1 := lk2.cell (i := 1) rfl
        clear hd
        go_simp
        refine hK _ _ ?_ (fun h => by cases h)
        intro s hs
        cases hs
        exact ⟨hB, c0, (fun _ => rfl), c2, c3, c5, o4, wn4, o6, wn6, lk1, lk2⟩
      case s2r2 =>
        rintro L u W ⟨hB, c0, c1, c2, c3, c5, o4, wn4, o6, wn6, lk1, lk2⟩ hf hd K hK
        dsimp only at hK
        have t0 := lk1.cell (i := 0) rfl
        have t1 := lk1.cell (i := 1) rfl
        clear hd
        go_simp
        refine hK _ _ ?_ (fun h => by cases h)
        intro s hs
        cases hs
        exact ⟨hB, c0, c1, (fun _ => rfl), c3, c5, o4, wn4, o6, wn6, lk1, lk2⟩
      case s3r2 =>
        rintro L u W ⟨hB, c0, c1, c2, c3, c5, o4, wn4, o6, wn6, lk1, lk2⟩ hf hd K hK
        dsimp only at hK
        have hd1 : L 1 = true := (by first | (refine hd ⟨1, .data⟩ ?_ rfl; simp; done) | (refine hd ⟨1, .guard⟩ ?_ rfl; simp; done) | (refine hd ⟨1, .phase⟩ ?_ rfl; simp; done) | (refine hd ⟨1, .chain⟩ ?_ rfl; simp; done))
        have hd2 : L 2 = true := (by first | (refine hd ⟨2, .data⟩ ?_ rfl; simp; done) | (refine hd ⟨2, .guard⟩ ?_ rfl; simp; done) | (refine hd ⟨2, .phase⟩ ?_ rfl; simp; done) | (refine hd ⟨2, .chain⟩ ?_ rfl; simp; done))
        have e1 := c1 hd1
        rw [e1] at hK
        have e2 := c2 hd2
        rw [e2] at hK
        clear hd1
        clear hd2
        clear hd
        go_simp
        go_wp2_with (go_at_call 45; ((with_reducible refine (Q.out _).mono ?_); rintro e w5 ⟨rfl, hb⟩))
        refine hK _ _ ?_ (fun h => by cases h)
        intro s hs
        cases hs
        exact ⟨hB.trans (hb.mono (Nat.le_trans hbound hB.size)), c0, c1, c2, (fun _ => rfl), c5, (fun h => (o4 h).keep hb), (fun h => (wn4 h).keep hb), (fun h => (o6 h).keep hb), (fun h => (wn6 h).keep hb), (lk1.keep hb), (lk2.keep hb)⟩
      case s4r2 =>
        rintro L u W ⟨hB, c0, c1, c2, c3, c5, o4, wn4, o6, wn6, lk1, lk2⟩ hf hd K hK
        dsimp only at hK
        have hd0 : L 0 = true := (by first | (refine hd ⟨0, .data⟩ ?_ rfl; simp; done) | (refine hd ⟨0, .phase⟩ ?_ rfl; simp; done))
        have k3 := o4 hf
        have e0 := c0 hd0
        rw [e0] at hK
        have t0 := k3.cell (i := 0) rfl
        have f0 := k3.frozen 0
        have t1 := k3.cell (i := 1) rfl
        have f1 := k3.frozen 1
        clear hd
        have hd0' := Lib.hid hd0
        clear hd0
        go_simp
        have hd0 := hd0'.out
        have hlok := (k3.set (i := 0) (v := .int .i64 b1)).set (i := 1) (v := .int .i64 b2)
        refine hK undef _ (fun s h => by cases h) (fun _ => ?_)
        exact ⟨(hB.setCell (by first | exact Nat.le_refl _ | assumption | (show _ ≤ _; omega) | (show ((w.heap.size + 3)) ≤ (w.heap.size + 3); omega)) _).setCell (by first | exact Nat.le_refl _ | assumption | (show _ ≤ _; omega) | (show ((w.heap.size + 3)) ≤ (w.heap.size + 3); omega)) _, (fun _ => rfl), c1, c2, c3, c5, (fun h => by cases h), (fun _ => hlok), (fun h => (((o6 h).far (by first | assumption | omega)).far (by first | assumption | omega))), (fun h => (((wn6 h).far (by first | assumption | omega)).far (by first | assumption | omega))), ((lk1.far (by first | assumption | omega)).far (by first | assumption | omega)), ((lk2.far (by first | assumption | omega)).far (by first | assumption | omega))⟩
      case s5r2 =>
        rintro L u W ⟨hB, c0, c1, c2, c3, c5, o4, wn4, o6, wn6, lk1, lk2⟩ hf hd K hK
        dsimp only at hK
        clear hd
        go_simp
        refine hK _ _ ?_ (fun h => by cases h)
        intro s hs
        cases hs
        exact ⟨hB, c0, c1, c2, c3, (fun _ => rfl), o4, wn4, o6, wn6, lk1, lk2⟩
      case s6r2 =>
        rintro L u W ⟨hB, c0, c1, c2, c3, c5, o4, wn4, o6, wn6, lk1, lk2⟩ hf hd K hK
        dsimp only at hK
        have hd3 : L 3 = true := (by first | (refine hd ⟨3, .data⟩ ?_ rfl; simp; done) | (refine hd ⟨3, .phase⟩ ?_ rfl; simp; done))
        have k3 := o6 hf
        have e3 := c3 hd3
        rw [e3] at hK
        have t0 := k3.cell (i := 0) rfl
        have f0 := k3.frozen 0
        have t1 := k3.cell (i := 1) rfl
        have f1 := k3.frozen 1
        clear hd
        have hd3' := Lib.hid hd3
        clear hd3
        go_simp
        have hd3 := hd3'.out
        have hlok := (k3.set (i := 0) (v := .int .i64 n0)).set (i := 1) (v := .int .i64 1)
        refine hK undef _ (fun s h => by cases h) (fun _ => ?_)
        exact ⟨(hB.setCell (by first | exact Nat.le_refl _ | assumption | (show _ ≤ _; omega) | (show ((w.heap.size + 3)) ≤ (w.heap.size + 4); omega)) _).setCell (by first | exact Nat.le_refl _ | assumption | (show _ ≤ _; omega) | (show ((w.heap.size + 3)) ≤ (w.heap.size + 4); omega)) _, c0, c1, c2, (fun _ => rfl), c5, (fun h => (((o4 h).far (by first | assumption | omega)).far (by first | assumption | omega))), (fun h => (((wn4 h).far (by first | assumption | omega)).far (by first | assumption | omega))), (fun h => by cases h), (fun _ => hlok), ((lk1.far (by first | assumption | omega)).far (by first | assumption | omega)), ((lk2.far (by first | assumption | omega)).far (by first | assumption | omega))⟩
    case finr2 =>
      rintro L u W hL ⟨hB, c0, c1, c2, c3, c5, o4, wn4, o6, wn6, lk1, lk2⟩
      have e0 := c0 (hL 0 (by decide))
      have e1 := c1 (hL 1 (by decide))
      have e2 := c2 (hL 2 (by decide))
      have e3 := c3 (hL 3 (by decide))
      have e5 := c5 (hL 5 (by decide))
      have hlok4 := wn4 (hL 4 (by decide))
      have hlok6 := wn6 (hL 6 (by decide))
      clear hL c0 c1 c2 c3 c5 o4 wn4 o6 wn6
      try simp only [e0, e1, e2, e3, e5]
      clear e0 e1 e2 e3 e5
      have z0 := hlok4.cell (i := 0) rfl
      have z1 := hlok4.cell (i := 1) rfl
      have z2 := hlok6.cell (i := 0) rfl
      have z3 := hlok6.cell (i := 1) rfl
      go_wp2_with fail
      exact bodyPost_ret (v := .tuple #[.agg #[.int .i64 b1, .int .i64 b2], .int .i64 1, .agg #[.int .i64 n0, .int .i64 1]]) (by simp [results, Try.results22, go_sem, z0, z1, z2, z3]) rfl ⟨rfl, HB.out.trans (hB.mono (by omega))⟩
end Go.Proofs.Ytllamakemgogaaa
