/-
  Contracts of package near: a foot between the ends, any foot, Edge. (gen/NrC.py)
-/
import Derived.Test.YtllamakemgogaaaNrB
import Derived.Test.YtllamakemgogaaaMtD
namespace Go.Proofs.Ytllamakemgogaaa
open Go.RowKit

set_option maxRecDepth 100000 in
set_option maxHeartbeats 4000000 in
theorem foot_2 (x y a1 a2 b1 b2 : Int) (hm : 0 < em x y a1 a2 b1 b2) (hn : em x y a1 a2 b1 b2 < sq a1 a2 b1 b2)
    (hp : s2 x y = true) (ha : s2 a1 a2 = true) (hb : s2 b1 b2 = true) (w : World) :
    Calls Try.prog 22 #[.agg #[.int .i64 x, .int .i64 y], .agg #[.int .i64 a1, .int .i64 a2], .agg #[.int .i64 b1, .int .i64 b2]] w fun e' w' => e' = .returned (.tuple #[.agg #[.int .i64 (a1 + (b1 - a1) * em x y a1 a2 b1 b2 / sq a1 a2 b1 b2), .int .i64 (a2 + (b2 - a2) * em x y a1 a2 b1 b2 / sq a1 a2 b1 b2)], .int .i64 2, .agg #[.int .i64 (ar a1 a2 b1 b2 x y * ar a1 a2 b1 b2 x y), .int .i64 (sq a1 a2 b1 b2)]]) ∧ Below w.heap.size w w' := by
  have HB := Lib.hid (Below.refl w.heap.size w)
  have U1 := Lib.hid (fun W => sub2_sm ha hb W)
  have U2 := Lib.hid (fun W => sub2_sm ha hp W)
  obtain ⟨hp1, hp2⟩ := s2_iff.1 hp
  obtain ⟨ha1, ha2⟩ := s2_iff.1 ha
  obtain ⟨hb1, hb2⟩ := s2_iff.1 hb
  have D1 := Lib.hid (fun W => ndot_any (x - a1) (y - a2) (b1 - a1) (b2 - a2) (dif_sm hp1 ha1) (dif_sm hp2 ha2) (dif_sm hb1 ha1) (dif_sm hb2 ha2) W)
  have D2 := Lib.hid (fun W => ndot_any (b1 - a1) (b2 - a2) (b1 - a1) (b2 - a2) (dif_sm hb1 ha1) (dif_sm hb2 ha2) (dif_sm hb1 ha1) (dif_sm hb2 ha2) W)
  rw [show (x - a1) * (b1 - a1) + (y - a2) * (b2 - a2) = em x y a1 a2 b1 b2 from rfl] at D1
  rw [show (b1 - a1) * (b1 - a1) + (b2 - a2) * (b2 - a2) = sq a1 a2 b1 b2 from rfl] at D2
  have AR := Lib.hid (fun W => area_any a1 a2 b1 b2 x y true (by rw [ha, hb, hp]; rfl) W)
  rw [vF_yes, show rE true = 0 from rfl] at AR
  have bn := sq_bd ha hb
  have br := ar_sq_bd ha hb hp
  have box1 := part_box (a := a1) (b := b1) hm hn
  have box2 := part_box (a := a2) (b := b2) hm hn
  generalize ar a1 a2 b1 b2 x y = r at *
  generalize em x y a1 a2 b1 b2 = m at *
  generalize sq a1 a2 b1 b2 = n at *
  generalize hd1 : b1 - a1 = d1 at *
  generalize hd2 : b2 - a2 = d2 at *
  unfold SM at *
  have p1 := abs_prod (a := d1) (b := m) (m := 8192) (n := 134217728) (by omega) (by omega)
  have p2 := abs_prod (a := d2) (b := m) (m := 8192) (n := 134217728) (by omega) (by omega)
  have G1 := Lib.hid (fun W => down_any (d1 * m) n (by omega) (by unfold In64; omega) (by unfold In64; omega) W)
  have G2 := Lib.hid (fun W => down_any (d2 * m) n (by omega) (by unfold In64; omega) (by unfold In64; omega) W)
  have e1 : IntKind.i64.wrap (d1 * m) = d1 * m := IntWalk.i64_in _ (by omega)
  have e2 : IntKind.i64.wrap (d2 * m) = d2 * m := IntWalk.i64_in _ (by omega)
  have e5 : IntKind.i64.wrap (r * r) = r * r := IntWalk.i64_in _ (by omega)
  generalize d1 * m / n = q1 at *
  generalize d2 * m / n = q2 at *
  have e3 : IntKind.i64.wrap (a1 + q1) = a1 + q1 := IntWalk.i64_in _ (by omega)
  have e4 : IntKind.i64.wrap (a2 + q2) = a2 + q2 := IntWalk.i64_in _ (by omega)
  have n1 : ¬ m ≤ 0 := by omega
  have n2 : ¬ n ≤ m := by omega
  generalize hc1 : x - a1 = c1 at *
  generalize hc2 : y - a2 = c2 at *
  clear hp ha hb hp1 hp2 ha1 ha2 hb1 hb2 hd1 hd2 hc1 hc2 hm hn bn br box1 box2 p1 p2
  go_enter Try.func22, Try.ntmps22
  go_upto_region 1 with fail
  have hbx := below_new1 w (.cells #[.int .i64 x, .int .i64 y] 53)
  have zx : (w.alloc (.cells #[.int .i64 x, .int .i64 y] 53)).heap.size = w.heap.size + 1 := by simp
  have HB := Lib.hid hbx
  have kx := Lib.hid (Lok.new w 53 #[.int .i64 x, .int .i64 y])
  clear hbx
  generalize w.alloc (.cells #[.int .i64 x, .int .i64 y] 53) = Vx at *
  have hbp := below_new1 Vx (.cells #[.int .i64 a1, .int .i64 a2] 23)
  replace kx := Lib.hid (kx.out.keep hbp)
  have zp : (Vx.alloc (.cells #[.int .i64 a1, .int .i64 a2] 23)).heap.size = Vx.heap.size + 1 := by simp
  replace HB := Lib.hid (HB.out.trans (hbp.mono HB.out.size))
  have kp := Lib.hid (Lok.new Vx 23 #[.int .i64 a1, .int .i64 a2])
  clear hbp
  generalize Vx.alloc (.cells #[.int .i64 a1, .int .i64 a2] 23) = Vp at *
  rw [zx] at kp zp
  have hbq := below_new1 Vp (.cells #[.int .i64 b1, .int .i64 b2] 23)
  replace kx := Lib.hid (kx.out.keep hbq)
  replace kp := Lib.hid (kp.out.keep hbq)
  have zq : (Vp.alloc (.cells #[.int .i64 b1, .int .i64 b2] 23)).heap.size = Vp.heap.size + 1 := by simp
  replace HB := Lib.hid (HB.out.trans (hbq.mono HB.out.size))
  have kq := Lib.hid (Lok.new Vp 23 #[.int .i64 b1, .int .i64 b2])
  clear hbq
  generalize Vp.alloc (.cells #[.int .i64 b1, .int .i64 b2] 23) = Vq at *
  rw [zp] at kq zq
  have hbr := below_new1 Vq (.cells #[.int .i64 0, .int .i64 0] 23)
  replace kx := Lib.hid (kx.out.keep hbr)
  replace kp := Lib.hid (kp.out.keep hbr)
  replace kq := Lib.hid (kq.out.keep hbr)
  have zr : (Vq.alloc (.cells #[.int .i64 0, .int .i64 0] 23)).heap.size = Vq.heap.size + 1 := by simp
  replace HB := Lib.hid (HB.out.trans (hbr.mono HB.out.size))
  have kr := Lib.hid (Lok.new Vq 23 #[.int .i64 0, .int .i64 0])
  clear hbr
  generalize Vq.alloc (.cells #[.int .i64 0, .int .i64 0] 23) = Vr at *
  rw [zq] at kr zr
  have hbs := below_new1 Vr (.cells #[.int .i64 0, .int .i64 0] 29)
  replace kx := Lib.hid (kx.out.keep hbs)
  replace kp := Lib.hid (kp.out.keep hbs)
  replace kq := Lib.hid (kq.out.keep hbs)
  replace kr := Lib.hid (kr.out.keep hbs)
  have zs : (Vr.alloc (.cells #[.int .i64 0, .int .i64 0] 29)).heap.size = Vr.heap.size + 1 := by simp
  replace HB := Lib.hid (HB.out.trans (hbs.mono HB.out.size))
  have ks := Lib.hid (Lok.new Vr 29 #[.int .i64 0, .int .i64 0])
  clear hbs
  generalize Vr.alloc (.cells #[.int .i64 0, .int .i64 0] 29) = Vs at *
  rw [zr] at ks
  clear zx zp zq zr zs
  have lt0 := kx.out.lt
  have lt1 := kp.out.lt
  have lt2 := kq.out.lt
  have lt3 := kr.out.lt
  have lt4 := ks.out.lt
  refine wp_region_rel (by kernel_rfl) [16, 17, 18, 19, 9, 10] ?Fr3 ?hFr3
    (fun L u W => Below Vs.heap.size Vs W ∧ (L 0 = true → u 16 = .agg #[.int .i64 x, .int .i64 y]) ∧ (L 1 = true → u 17 = .agg #[.int .i64 b1, .int .i64 b2]) ∧ (L 2 = true → u 18 = .agg #[.int .i64 a1, .int .i64 a2]) ∧ (L 3 = true → u 19 = .agg #[.int .i64 d1, .int .i64 d2]) ∧ (L 4 = true → ∃ (g : Nat) (x4_0 x4_1 : Value), u 9 = .pointer (some ⟨g, 0, none⟩) ∧ Vs.heap.size ≤ g ∧ Lok W g 23 #[x4_0, x4_1] ∧ (L 6 = true → x4_0 = .int .i64 x ∧ x4_1 = .int .i64 y)) ∧ (L 6 = true → L 4 = true) ∧ (L 5 = true → ∃ (g : Nat) (x5_0 x5_1 : Value), u 10 = .pointer (some ⟨g, 0, none⟩) ∧ Vs.heap.size ≤ g ∧ Lok W g 23 #[x5_0, x5_1] ∧ (L 7 = true → x5_0 = .int .i64 d1 ∧ x5_1 = .int .i64 d2)) ∧ (L 7 = true → L 5 = true) ∧ (L 4 = true → L 5 = true → u 9 ≠ u 10)) (by kernel_rfl) (by kernel_rfl) 8 rfl ?h0r3 ?stepr3 ?finr3
  case hFr3 => intro u; simp only [putAll, Act.put, List.setIfInBounds_toArray, List.set]; exact rfl
  case h0r3 => intro L u hL; exact ⟨(Below.refl _ _).drew, (fun h => by simp [hL] at h), (fun h => by simp [hL] at h), (fun h => by simp [hL] at h), (fun h => by simp [hL] at h), (fun h => by simp [hL] at h), (fun h => by simp [hL] at h), (fun h => by simp [hL] at h), (fun h => by simp [hL] at h), (fun h => by simp [hL] at h)⟩
  case stepr3 =>
    refine ops_all (ops_cons ?s0r3 (ops_cons ?s1r3 (ops_cons ?s2r3 (ops_cons ?s3r3 (ops_cons ?s4r3 (ops_cons ?s5r3 (ops_cons ?s6r3 (ops_cons ?s7r3 (ops_nil)))))))))
    case s0r3 =>
      rintro L u W ⟨hB, c0, c1, c2, c3, c4, d6, c5, d7, y4_5⟩ hf hd K hK
      dsimp only at hK
      have t0 := (kx.out.keep hB).cell (i := 0) rfl
      have t1 := (kx.out.keep hB).cell (i := 1) rfl
      clear hd
      go_simp
      refine hK _ _ ?_ (fun h => by cases h)
      intro s hs
      cases hs
      exact ⟨hB, (fun _ => rfl), c1, c2, c3, c4, d6, c5, d7, y4_5⟩
    case s1r3 =>
      rintro L u W ⟨hB, c0, c1, c2, c3, c4, d6, c5, d7, y4_5⟩ hf hd K hK
      dsimp only at hK
      have t0 := (kq.out.keep hB).cell (i := 0) rfl
      have t1 := (kq.out.keep hB).cell (i := 1) rfl
      clear hd
      go_simp
      refine hK _ _ ?_ (fun h => by cases h)
      intro s hs
      cases hs
      exact ⟨hB, c0, (fun _ => rfl), c2, c3, c4, d6, c5, d7, y4_5⟩
    case s2r3 =>
      rintro L u W ⟨hB, c0, c1, c2, c3, c4, d6, c5, d7, y4_5⟩ hf hd K hK
      dsimp only at hK
      have t0 := (kp.out.keep hB).cell (i := 0) rfl
      have t1 := (kp.out.keep hB).cell (i := 1) rfl
      clear hd
      go_simp
      refine hK _ _ ?_ (fun h => by cases h)
      intro s hs
      cases hs
      exact ⟨hB, c0, c1, (fun _ => rfl), c3, c4, d6, c5, d7, y4_5⟩
    case s3r3 =>
      rintro L u W ⟨hB, c0, c1, c2, c3, c4, d6, c5, d7, y4_5⟩ hf hd K hK
      dsimp only at hK
      have hd1 : L 1 = true := (by first | (refine hd ⟨1, .data⟩ ?_ rfl; simp; done) | (refine hd ⟨1, .guard⟩ ?_ rfl; simp; done) | (refine hd ⟨1, .phase⟩ ?_ rfl; simp; done) | (refine hd ⟨1, .chain⟩ ?_ rfl; simp; done))
      have hd2 : L 2 = true := (by first | (refine hd ⟨2, .data⟩ ?_ rfl; simp; done) | (refine hd ⟨2, .guard⟩ ?_ rfl; simp; done) | (refine hd ⟨2, .phase⟩ ?_ rfl; simp; done) | (refine hd ⟨2, .chain⟩ ?_ rfl; simp; done))
      have e1 := c1 hd1
      rw [e1] at hK
      have e2 := c2 hd2
      rw [e2] at hK
      clear hd1
      clear hd2
      clear hd
      go_simp
      go_wp2_with (go_at_call 43; ((with_reducible refine (U1.out _).mono ?_); rintro e w5 ⟨rfl, hb⟩))
      refine hK _ _ ?_ (fun h => by cases h)
      intro s hs
      cases hs
      exact ⟨hB.trans (hb.mono hB.size), c0, c1, c2, (fun _ => rfl), (fun h => by obtain ⟨g, x4_0, x4_1, k1, k2, k3, k4⟩ := c4 h; exact ⟨g, x4_0, x4_1, k1, k2, k3.keep hb, k4⟩), d6, (fun h => by obtain ⟨g, x5_0, x5_1, k1, k2, k3, k4⟩ := c5 h; exact ⟨g, x5_0, x5_1, k1, k2, k3.keep hb, k4⟩), d7, y4_5⟩
    case s4r3 =>
      rintro L u W ⟨hB, c0, c1, c2, c3, c4, d6, c5, d7, y4_5⟩ hf hd K hK
      dsimp only at hK
      go_simp
      have hb : Below W.heap.size W (W.alloc (.cells #[.int .i64 0, .int .i64 0] 23)) := (Below.refl _ W).alloc (Nat.le_refl _) _
      refine hK _ _ ?_ (fun h => by cases h)
      intro s hs
      cases hs
      exact ⟨hB.trans (hb.mono hB.size), c0, c1, c2, c3, (fun _ => ⟨_, _, _, rfl, hB.size, Lok.new _ _ _, fun h => absurd (d6 h) (by rw [hf]; decide)⟩), (fun _ => rfl), (fun h => by obtain ⟨g, x5_0, x5_1, k1, k2, k3, k4⟩ := c5 h; exact ⟨g, x5_0, x5_1, k1, k2, k3.keep hb, k4⟩), d7, (fun _ h => by obtain ⟨g, x5_0, x5_1, k1, k2, k3, k4⟩ := c5 h; exact ptr_new k1 k3)⟩
    case s5r3 =>
      rintro L u W ⟨hB, c0, c1, c2, c3, c4, d6, c5, d7, y4_5⟩ hf hd K hK
      dsimp only at hK
      go_simp
      have hb : Below W.heap.size W (W.alloc (.cells #[.int .i64 0, .int .i64 0] 23)) := (Below.refl _ W).alloc (Nat.le_refl _) _
      refine hK _ _ ?_ (fun h => by cases h)
      intro s hs
      cases hs
      exact ⟨hB.trans (hb.mono hB.size), c0, c1, c2, c3, (fun h => by obtain ⟨g, x4_0, x4_1, k1, k2, k3, k4⟩ := c4 h; exact ⟨g, x4_0, x4_1, k1, k2, k3.keep hb, k4⟩), d6, (fun _ => ⟨_, _, _, rfl, hB.size, Lok.new _ _ _, fun h => absurd (d7 h) (by rw [hf]; decide)⟩), (fun _ => rfl), (fun h _ => by obtain ⟨g, x4_0, x4_1, k1, k2, k3, k4⟩ := c4 h; exact ptr_new2 k1 k3)⟩
    case s6r3 =>
      rintro L u W ⟨hB, c0, c1, c2, c3, c4, d6, c5, d7, y4_5⟩ hf hd K hK
      dsimp only at hK
      have hd4 : L 4 = true := hd ⟨4, .data⟩ (by simp) rfl
      have hd0 : L 0 = true := (by first | (refine hd ⟨0, .data⟩ ?_ rfl; simp; done) | (refine hd ⟨0, .guard⟩ ?_ rfl; simp; done) | (refine hd ⟨0, .phase⟩ ?_ rfl; simp; done) | (refine hd ⟨0, .chain⟩ ?_ rfl; simp; done))
      obtain ⟨g, x4_0, x4_1, e4, k2, k3, k4⟩ := c4 hd4
      rw [e4] at hK
      have e0 := c0 hd0
      rw [e0] at hK
      have t0 := k3.cell (i := 0) rfl
      have f0 := k3.frozen 0
      have t1 := k3.cell (i := 1) rfl
      have f1 := k3.frozen 1
      have HH := Lib.hid (And.intro trivial trivial)
      clear hd
      have hd4' := Lib.hid hd4
      clear hd4
      have hd0' := Lib.hid hd0
      clear hd0
      go_simp
      have hd4 := hd4'.out
      have hd0 := hd0'.out
      have hlok := (k3.set (i := 0) (v := .int .i64 x)).set (i := 1) (v := .int .i64 y)
      refine hK undef _ (fun s h => by cases h) (fun _ => ?_)
      exact ⟨(hB.setCell k2 _).setCell k2 _, (fun _ => rfl), c1, c2, c3, (fun _ => ⟨g, _, _, rfl, k2, hlok, fun _ => ⟨rfl, rfl⟩⟩), (fun _ => hd4), (fun h => by obtain ⟨g2, x5_0, x5_1, m1, m2, m3, m4⟩ := c5 h; have hne := ptr_apart (y4_5 hd4 h) e4 m1; exact ⟨g2, x5_0, x5_1, m1, m2, (m3.far hne).far hne, m4⟩), d7, (fun h1 h2 => by first | exact y4_5 h1 h2 | (rw [← e4]; exact y4_5 h1 h2))⟩
    case s7r3 =>
      rintro L u W ⟨hB, c0, c1, c2, c3, c4, d6, c5, d7, y4_5⟩ hf hd K hK
      dsimp only at hK
      have hd5 : L 5 = true := hd ⟨5, .data⟩ (by simp) rfl
      have hd3 : L 3 = true := (by first | (refine hd ⟨3, .data⟩ ?_ rfl; simp; done) | (refine hd ⟨3, .guard⟩ ?_ rfl; simp; done) | (refine hd ⟨3, .phase⟩ ?_ rfl; simp; done) | (refine hd ⟨3, .chain⟩ ?_ rfl; simp; done))
      obtain ⟨g, x5_0, x5_1, e5, k2, k3, k4⟩ := c5 hd5
      rw [e5] at hK
      have e3 := c3 hd3
      rw [e3] at hK
      have t0 := k3.cell (i := 0) rfl
      have f0 := k3.frozen 0
      have t1 := k3.cell (i := 1) rfl
      have f1 := k3.frozen 1
      have HH := Lib.hid (And.intro trivial trivial)
      clear hd
      have hd5' := Lib.hid hd5
      clear hd5
      have hd3' := Lib.hid hd3
      clear hd3
      go_simp
      have hd5 := hd5'.out
      have hd3 := hd3'.out
      have hlok := (k3.set (i := 0) (v := .int .i64 d1)).set (i := 1) (v := .int .i64 d2)
      refine hK undef _ (fun s h => by cases h) (fun _ => ?_)
      exact ⟨(hB.setCell k2 _).setCell k2 _, c0, c1, c2, (fun _ => rfl), (fun h => by obtain ⟨g2, x4_0, x4_1, m1, m2, m3, m4⟩ := c4 h; have hne := ptr_apart2 (y4_5 h hd5) m1 e5; exact ⟨g2, x4_0, x4_1, m1, m2, (m3.far hne).far hne, m4⟩), d6, (fun _ => ⟨g, _, _, rfl, k2, hlok, fun _ => ⟨rfl, rfl⟩⟩), (fun _ => hd5), (fun h1 h2 => by first | exact y4_5 h1 h2 | (rw [← e5]; exact y4_5 h1 h2))⟩
  case finr3 =>
    rintro L u W hL ⟨hB, c0, c1, c2, c3, c4, d6, c5, d7, y4_5⟩
    have e0 := c0 (hL 0 (by decide))
    have e1 := c1 (hL 1 (by decide))
    have e2 := c2 (hL 2 (by decide))
    have e3 := c3 (hL 3 (by decide))
    obtain ⟨g4, x4_0, x4_1, e4, hg4, hlok4, hst4⟩ := c4 (hL 4 (by decide))
    obtain ⟨rfl, rfl⟩ := hst4 (hL 6 (by decide))
    clear hst4
    obtain ⟨g5, x5_0, x5_1, e5, hg5, hlok5, hst5⟩ := c5 (hL 5 (by decide))
    obtain ⟨rfl, rfl⟩ := hst5 (hL 7 (by decide))
    clear hst5
    clear hL c0 c1 c2 c3 c4 d6 c5 d7 y4_5
    try simp only [e0, e1, e2, e3, e4, e5]
    clear e0 e1 e2 e3 e4 e5
    have HB := Lib.hid (HB.out.trans (hB.mono HB.out.size))
    have kx := Lib.hid (kx.out.keep hB)
    have kp := Lib.hid (kp.out.keep hB)
    have kq := Lib.hid (kq.out.keep hB)
    have kr := Lib.hid (kr.out.keep hB)
    have ks := Lib.hid (ks.out.keep hB)
    have km := Lib.hid hlok4
    have kd := Lib.hid hlok5
    have hsz := hB.size
    clear hlok4 hlok5 hB
    go_upto_region 2 with fail
    have qp0 : ∀ D : Of (PastV W), _ := fun D => (kp.out.keep (show Below W.heap.size W D.world from D.holds)).cell (i := 0) rfl
    have qp1 : ∀ D : Of (PastV W), _ := fun D => (kp.out.keep (show Below W.heap.size W D.world from D.holds)).cell (i := 1) rfl
    have qm0 : ∀ D : Of (PastV W), _ := fun D => (km.out.keep (show Below W.heap.size W D.world from D.holds)).cell (i := 0) rfl
    have qm1 : ∀ D : Of (PastV W), _ := fun D => (km.out.keep (show Below W.heap.size W D.world from D.holds)).cell (i := 1) rfl
    have qd0 : ∀ D : Of (PastV W), _ := fun D => (kd.out.keep (show Below W.heap.size W D.world from D.holds)).cell (i := 0) rfl
    have qd1 : ∀ D : Of (PastV W), _ := fun D => (kd.out.keep (show Below W.heap.size W D.world from D.holds)).cell (i := 1) rfl
    have ST := Lib.hid (pastV_stays W)
    have ne : Nonempty (Of (PastV W)) := ⟨⟨W, Below.refl _ _⟩⟩
    refine wp_region_class (S := PastV W) (by kernel_rfl) (by kernel_rfl) (Below.refl _ _).drew ?_
    repeat (go_big_quiet_step (first | (go_at_call 43; first | (with_reducible exact class_call ST.out _ (U2.out _))) | (go_at_call 44; first | (with_reducible exact class_call ST.out _ (D1.out _)) | (with_reducible exact class_call ST.out _ (D2.out _)))))
    refine wpQuiet_nil ?_
    rintro _ ⟨D, rfl⟩
    have hD : Below W.heap.size W D.world := D.holds
    have hsD := hD.size
    replace HB := Lib.hid (HB.out.trans (hD.mono HB.out.size))
    replace kx := Lib.hid (kx.out.keep hD)
    replace kp := Lib.hid (kp.out.keep hD)
    replace kq := Lib.hid (kq.out.keep hD)
    replace kr := Lib.hid (kr.out.keep hD)
    replace ks := Lib.hid (ks.out.keep hD)
    replace km := Lib.hid (km.out.keep hD)
    replace kd := Lib.hid (kd.out.keep hD)
    generalize D.world = vd at *
    clear qp0 qp1 qm0 qm1 qd0 qd1 ne ST hD
    have lm := km.out.lt
    have ld := kd.out.lt
    go_upto_region 7 with fail
    have p0 := kp.out.cell (i := 0) rfl
    have p1 := kp.out.cell (i := 1) rfl
    have q0 := kq.out.cell (i := 0) rfl
    have q1 := kq.out.cell (i := 1) rfl
    have m0 := km.out.cell (i := 0) rfl
    have m1 := km.out.cell (i := 1) rfl
    go_wp2_with fail
    clear p0 p1 q0 q1 m0 m1
    (((with_reducible refine (AR.out _).mono ?_); rintro e w1 ⟨rfl, hb1⟩); replace HB := Lib.hid (HB.out.trans (hb1.mono HB.out.size)); replace kx := Lib.hid (kx.out.keep hb1); replace kp := Lib.hid (kp.out.keep hb1); replace kq := Lib.hid (kq.out.keep hb1); replace kr := Lib.hid (kr.out.keep hb1); replace ks := Lib.hid (ks.out.keep hb1); replace km := Lib.hid (km.out.keep hb1); replace kd := Lib.hid (kd.out.keep hb1); clear hb1)
    go_upto_region 8 with fail
    have l9 := kr.out.lt
    have l10 := ks.out.lt
    refine wp_region_rel (by kernel_rfl) [48, 49, 50, 51, 52, 53, 54, 55, 56, 57, 58, 59, 60, 61, 62, 63, 64, 65, 66, 15] ?Fr1 ?hFr1
      (fun L u W => Below w1.heap.size w1 W ∧ (L 0 = true → u 48 = .pointer (some ⟨w.heap.size + 1, 0, none⟩)) ∧ (L 1 = true → u 49 = .int .i64 a1) ∧ (L 2 = true → u 50 = .pointer (some ⟨g5, 0, none⟩)) ∧ (L 3 = true → u 51 = .int .i64 d1) ∧ (L 4 = true → u 52 = .int .i64 m) ∧ (L 5 = true → u 53 = .int .i64 (d1 * m)) ∧ (L 6 = true → u 54 = .int .i64 n) ∧ (L 7 = true → u 55 = .int .i64 q1) ∧ (L 8 = true → u 56 = .int .i64 (a1 + q1)) ∧ (L 9 = true → u 57 = .pointer (some ⟨w.heap.size + 1, 1, none⟩)) ∧ (L 10 = true → u 58 = .int .i64 a2) ∧ (L 11 = true → u 59 = .pointer (some ⟨g5, 1, none⟩)) ∧ (L 12 = true → u 60 = .int .i64 d2) ∧ (L 13 = true → u 61 = .int .i64 m) ∧ (L 14 = true → u 62 = .int .i64 (d2 * m)) ∧ (L 15 = true → u 63 = .int .i64 n) ∧ (L 16 = true → u 64 = .int .i64 q2) ∧ (L 17 = true → u 65 = .int .i64 (a2 + q2)) ∧ (L 18 = true → u 66 = .agg #[.int .i64 (a1 + q1), .int .i64 (a2 + q2)]) ∧ (L 19 = true → ∃ (g : Nat) (x19_0 x19_1 : Value), u 15 = .pointer (some ⟨g, 0, none⟩) ∧ w1.heap.size ≤ g ∧ Lok W g 23 #[x19_0, x19_1] ∧ (L 20 = true → x19_0 = .int .i64 (a1 + q1) ∧ x19_1 = .int .i64 (a2 + q2))) ∧ (L 20 = true → L 19 = true)) (by kernel_rfl) (by kernel_rfl) 21 rfl ?h0r1 ?stepr1 ?finr1
    case hFr1 => intro u; simp only [putAll, Act.put, List.setIfInBounds_toArray, List.set]; exact rfl
    case h0r1 => intro L u hL; exact ⟨(Below.refl _ _).drew, (fun h => by simp [hL] at h), (fun h => by simp [hL] at h), (fun h => by simp [hL] at h), (fun h => by simp [hL] at h), (fun h => by simp [hL] at h), (fun h => by simp [hL] at h), (fun h => by simp [hL] at h), (fun h => by simp [hL] at h), (fun h => by simp [hL] at h), (fun h => by simp [hL] at h), (fun h => by simp [hL] at h), (fun h => by simp [hL] at h), (fun h => by simp [hL] at h), (fun h => by simp [hL] at h), (fun h => by simp [hL] at h), (fun h => by simp [hL] at h), (fun h => by simp [hL] at h), (fun h => by simp [hL] at h), (fun h => by simp [hL] at h), (fun h => by simp [hL] at h), (fun h => by simp [hL] at h)⟩
    case stepr1 =>
      refine ops_all (ops_cons ?s0r1 (ops_cons ?s1r1 (ops_cons ?s2r1 (ops_cons ?s3r1 (ops_cons ?s4r1 (ops_cons ?s5r1 (ops_cons ?s6r1 (ops_cons ?s7r1 (ops_cons ?s8r1 (ops_cons ?s9r1 (ops_cons ?s10r1 (ops_cons ?s11r1 (ops_cons ?s12r1 (ops_cons ?s13r1 (ops_cons ?s14r1 (ops_cons ?s15r1 (ops_cons ?s16r1 (ops_cons ?s17r1 (ops_cons ?s18r1 (ops_cons ?s19r1 (ops_cons ?s20r1 (ops_nil))))))))))))))))))))))
      case s0r1 =>
        rintro L u W ⟨hB, c0, c1, c2, c3, c4, c5, c6, c7, c8, c9, c10, c11, c12, c13, c14, c15, c16, c17, c18, c19, d20⟩ hf hd K hK
        dsimp only at hK
        clear hd
        go_simp
        refine hK _ _ ?_ (fun h => by cases h)
        intro s hs
        cases hs
        exact ⟨hB, (fun _ => rfl), c1, c2, c3, c4, c5, c6, c7, c8, c9, c10, c11, c12, c13, c14, c15, c16, c17, c18, c19, d20⟩
      case s1r1 =>
        rintro L u W ⟨hB, c0, c1, c2, c3, c4, c5, c6, c7, c8, c9, c10, c11, c12, c13, c14, c15, c16, c17, c18, c19, d20⟩ hf hd K hK
        dsimp only at hK
        have hd0 : L 0 = true := (by first | (refine hd ⟨0, .data⟩ ?_ rfl; simp; done) | (refine hd ⟨0, .guard⟩ ?_ rfl; simp; done) | (refine hd ⟨0, .phase⟩ ?_ rfl; simp; done) | (refine hd ⟨0, .chain⟩ ?_ rfl; simp; done))
        have e0 := c0 hd0
        rw [e0] at hK
        have t0 := (kp.out.keep hB).cell (i := 0) rfl
        clear hd0
        clear hd
        go_simp
        refine hK _ _ ?_ (fun h => by cases h)
        intro s hs
        cases hs
        exact ⟨hB, c0, (fun _ => rfl), c2, c3, c4, c5, c6, c7, c8, c9, c10, c11, c12, c13, c14, c15, c16, c17, c18, c19, d20⟩
      case s2r1 =>
        rintro L u W ⟨hB, c0, c1, c2, c3, c4, c5, c6, c7, c8, c9, c10, c11, c12, c13, c14, c15, c16, c17, c18, c19, d20⟩ hf hd K hK
        dsimp only at hK
        clear hd
        go_simp
        refine hK _ _ ?_ (fun h => by cases h)
        intro s hs
        cases hs
        exact ⟨hB, c0, c1, (fun _ => rfl), c3, c4, c5, c6, c7, c8, c9, c10, c11, c12, c13, c14, c15, c16, c17, c18, c19, d20⟩
      case s3r1 =>
        rintro L u W ⟨hB, c0, c1, c2, c3, c4, c5, c6, c7, c8, c9, c10, c11, c12, c13, c14, c15, c16, c17, c18, c19, d20⟩ hf hd K hK
        dsimp only at hK
        have hd2 : L 2 = true := (by first | (refine hd ⟨2, .data⟩ ?_ rfl; simp; done) | (refine hd ⟨2, .guard⟩ ?_ rfl; simp; done) | (refine hd ⟨2, .phase⟩ ?_ rfl; simp; done) | (refine hd ⟨2, .chain⟩ ?_ rfl; simp; done))
        have e2 := c2 hd2
        rw [e2] at hK
        have t0 := (kd.out.keep hB).cell (i := 0) rfl
        clear hd2
        clear hd
        go_simp
        refine hK _ _ ?_ (fun h => by cases h)
        intro s hs
        cases hs
        exact ⟨hB, c0, c1, c2, (fun _ => rfl), c4, c5, c6, c7, c8, c9, c10, c11, c12, c13, c14, c15, c16, c17, c18, c19, d20⟩
      case s4r1 =>
        rintro L u W ⟨hB, c0, c1, c2, c3, c4, c5, c6, c7, c8, c9, c10, c11, c12, c13, c14, c15, c16, c17, c18, c19, d20⟩ hf hd K hK
        dsimp only at hK
        clear hd
        go_simp
        refine hK _ _ ?_ (fun h => by cases h)
        intro s hs
        cases hs
        exact ⟨hB, c0, c1, c2, c3, (fun _ => rfl), c5, c6, c7, c8, c9, c10, c11, c12, c13, c14, c15, c16, c17, c18, c19, d20⟩
      case s5r1 =>
        rintro L u W ⟨hB, c0, c1, c2, c3, c4, c5, c6, c7, c8, c9, c10, c11, c12, c13, c14, c15, c16, c17, c18, c19, d20⟩ hf hd K hK
        dsimp only at hK
        have hd3 : L 3 = true := (by first | (refine hd ⟨3, .data⟩ ?_ rfl; simp; done) | (refine hd ⟨3, .guard⟩ ?_ rfl; simp; done) | (refine hd ⟨3, .phase⟩ ?_ rfl; simp; done) | (refine hd ⟨3, .chain⟩ ?_ rfl; simp; done))
        have hd4 : L 4 = true := (by first | (refine hd ⟨4, .data⟩ ?_ rfl; simp; done) | (refine hd ⟨4, .guard⟩ ?_ rfl; simp; done) | (refine hd ⟨4, .phase⟩ ?_ rfl; simp; done) | (refine hd ⟨4, .chain⟩ ?_ rfl; simp; done))
        have e3 := c3 hd3
        rw [e3] at hK
        have e4 := c4 hd4
        rw [e4] at hK
        clear hd3
        clear hd4
        clear hd
        go_simp
        refine hK _ _ ?_ (fun h => by cases h)
        intro s hs
        cases hs
        exact ⟨hB, c0, c1, c2, c3, c4, (fun _ => rfl), c6, c7, c8, c9, c10, c11, c12, c13, c14, c15, c16, c17, c18, c19, d20⟩
      case s6r1 =>
        rintro L u W ⟨hB, c0, c1, c2, c3, c4, c5, c6, c7, c8, c9, c10, c11, c12, c13, c14, c15, c16, c17, c18, c19, d20⟩ hf hd K hK
        dsimp only at hK
        clear hd
        go_simp
        refine hK _ _ ?_ (fun h => by cases h)
        intro s hs
        cases hs
        exact ⟨hB, c0, c1, c2, c3, c4, c5, (fun _ => rfl), c7, c8, c9, c10, c11, c12, c13, c14, c15, c16, c17, c18, c19, d20⟩
      case s7r1 =>
        rintro L u W ⟨hB, c0, c1, c2, c3, c4, c5, c6, c7, c8, c9, c10, c11, c12, c13, c14, c15, c16, c17, c18, c19, d20⟩ hf hd K hK
        dsimp only at hK
        have hd5 : L 5 = true := (by first | (refine hd ⟨5, .data⟩ ?_ rfl; simp; done) | (refine hd ⟨5, .guard⟩ ?_ rfl; simp; done) | (refine hd ⟨5, .phase⟩ ?_ rfl; simp; done) | (refine hd ⟨5, .chain⟩ ?_ rfl; simp; done))
        have hd6 : L 6 = true := (by first | (refine hd ⟨6, .data⟩ ?_ rfl; simp; done) | (refine hd ⟨6, .guard⟩ ?_ rfl; simp; done) | (refine hd ⟨6, .phase⟩ ?_ rfl; simp; done) | (refine hd ⟨6, .chain⟩ ?_ rfl; simp; done))
        have e5 := c5 hd5
        rw [e5] at hK
        have e6 := c6 hd6
        rw [e6] at hK
        clear hd5
        clear hd6
        clear hd
        go_simp
        go_wp2_with (go_at_call 34; ((with_reducible refine (G1.out _).mono ?_); rintro e w5 ⟨rfl, hb⟩))
        refine hK _ _ ?_ (fun h => by cases h)
        intro s hs
        cases hs
        exact ⟨hB.trans (hb.mono hB.size), c0, c1, c2, c3, c4, c5, c6, (fun _ => rfl), c8, c9, c10, c11, c12, c13, c14, c15, c16, c17, c18, (fun h => by obtain ⟨g, x19_0, x19_1, k1, k2, k3, k4⟩ := c19 h; exact ⟨g, x19_0, x19_1, k1, k2, k3.keep hb, k4⟩), d20⟩
      case s8r1 =>
        rintro L u W ⟨hB, c0, c1, c2, c3, c4, c5, c6, c7, c8, c9, c10, c11, c12, c13, c14, c15, c16, c17, c18, c19, d20⟩ hf hd K hK
        dsimp only at hK
        have hd1 : L 1 = true := (by first | (refine hd ⟨1, .data⟩ ?_ rfl; simp; done) | (refine hd ⟨1, .guard⟩ ?_ rfl; simp; done) | (refine hd ⟨1, .phase⟩ ?_ rfl; simp; done) | (refine hd ⟨1, .chain⟩ ?_ rfl; simp; done))
        have hd7 : L 7 = true := (by first | (refine hd ⟨7, .data⟩ ?_ rfl; simp; done) | (refine hd ⟨7, .guard⟩ ?_ rfl; simp; done) | (refine hd ⟨7, .phase⟩ ?_ rfl; simp; done) | (refine hd ⟨7, .chain⟩ ?_ rfl; simp; done))
        have e1 := c1 hd1
        rw [e1] at hK
        have e7 := c7 hd7
        rw [e7] at hK
        clear hd1
        clear hd7
        clear hd
        go_simp
        refine hK _ _ ?_ (fun h => by cases h)
        intro s hs
        cases hs
        exact ⟨hB, c0, c1, c2, c3, c4, c5, c6, c7, (fun _ => rfl), c9, c10, c11, c12, c13, c14, c15, c16, c17, c18, c19, d20⟩
      case s9r1 =>
        rintro L u W ⟨hB, c0, c1, c2, c3, c4, c5, c6, c7, c8, c9, c10, c11, c12, c13, c14, c15, c16, c17, c18, c19, d20⟩ hf hd K hK
        dsimp only at hK
        clear hd
        go_simp
        refine hK _ _ ?_ (fun h => by cases h)
        intro s hs
        cases hs
        exact ⟨hB, c0, c1, c2, c3, c4, c5, c6, c7, c8, (fun _ => rfl), c10, c11, c12, c13, c14, c15, c16, c17, c18, c19, d20⟩
      case s10r1 =>
        rintro L u W ⟨hB, c0, c1, c2, c3, c4, c5, c6, c7, c8, c9, c10, c11, c12, c13, c14, c15, c16, c17, c18, c19, d20⟩ hf hd K hK
        dsimp only at hK
        have hd9 : L 9 = true := (by first | (refine hd ⟨9, .data⟩ ?_ rfl; simp; done) | (refine hd ⟨9, .guard⟩ ?_ rfl; simp; done) | (refine hd ⟨9, .phase⟩ ?_ rfl; simp; done) | (refine hd ⟨9, .chain⟩ ?_ rfl; simp; done))
        have e9 := c9 hd9
        rw [e9] at hK
        have t0 := (kp.out.keep hB).cell (i := 1) rfl
        clear hd9
        clear hd
        go_simp
        refine hK _ _ ?_ (fun h => by cases h)
        intro s hs
        cases hs
        exact ⟨hB, c0, c1, c2, c3, c4, c5, c6, c7, c8, c9, (fun _ => rfl), c11, c12, c13, c14, c15, c16, c17, c18, c19, d20⟩
      case s11r1 =>
        rintro L u W ⟨hB, c0, c1, c2, c3, c4, c5, c6, c7, c8, c9, c10, c11, c12, c13, c14, c15, c16, c17, c18, c19, d20⟩ hf hd K hK
        dsimp only at hK
        clear hd
        go_simp
        refine hK _ _ ?_ (fun h => by cases h)
        intro s hs
        cases hs
        exact ⟨hB, c0, c1, c2, c3, c4, c5, c6, c7, c8, c9, c10, (fun _ => rfl), c12, c13, c14, c15, c16, c17, c18, c19, d20⟩
      case s12r1 =>
        rintro L u W ⟨hB, c0, c1, c2, c3, c4, c5, c6, c7, c8, c9, c10, c11, c12, c13, c14, c15, c16, c17, c18, c19, d20⟩ hf hd K hK
        dsimp only at hK
        have hd11 : L 11 = true := (by first | (refine hd ⟨11, .data⟩ ?_ rfl; simp; done) | (refine hd ⟨11, .guard⟩ ?_ rfl; simp; done) | (refine hd ⟨11, .phase⟩ ?_ rfl; simp; done) | (refine hd ⟨11, .chain⟩ ?_ rfl; simp; done))
        have e11 := c11 hd11
        rw [e11] at hK
        have t0 := (kd.out.keep hB).cell (i := 1) rfl
        clear hd11
        clear hd
        go_simp
        refine hK _ _ ?_ (fun h => by cases h)
        intro s hs
        cases hs
        exact ⟨hB, c0, c1, c2, c3, c4, c5, c6, c7, c8, c9, c10, c11, (fun _ => rfl), c13, c14, c15, c16, c17, c18, c19, d20⟩
      case s13r1 =>
        rintro L u W ⟨hB, c0, c1, c2, c3, c4, c5, c6, c7, c8, c9, c10, c11, c12, c13, c14, c15, c16, c17, c18, c19, d20⟩ hf hd K hK
        dsimp only at hK
        clear hd
        go_simp
        refine hK _ _ ?_ (fun h => by cases h)
        intro s hs
        cases hs
        exact ⟨hB, c0, c1, c2, c3, c4, c5, c6, c7, c8, c9, c10, c11, c12, (fun _ => rfl), c14, c15, c16, c17, c18, c19, d20⟩
      case s14r1 =>
        rintro L u W ⟨hB, c0, c1, c2, c3, c4, c5, c6, c7, c8, c9, c10, c11, c12, c13, c14, c15, c16, c17, c18, c19, d20⟩ hf hd K hK
        dsimp only at hK
        have hd12 : L 12 = true := (by first | (refine hd ⟨12, .data⟩ ?_ rfl; simp; done) | (refine hd ⟨12, .guard⟩ ?_ rfl; simp; done) | (refine hd ⟨12, .phase⟩ ?_ rfl; simp; done) | (refine hd ⟨12, .chain⟩ ?_ rfl; simp; done))
        have hd13 : L 13 = true := (by first | (refine hd ⟨13, .data⟩ ?_ rfl; simp; done) | (refine hd ⟨13, .guard⟩ ?_ rfl; simp; done) | (refine hd ⟨13, .phase⟩ ?_ rfl; simp; done) | (refine hd ⟨13, .chain⟩ ?_ rfl; simp; done))
        have e12 := c12 hd12
        rw [e12] at hK
        have e13 := c13 hd13
        rw [e13] at hK
        clear hd12
        clear hd13
        clear hd
        go_simp
        refine hK _ _ ?_ (fun h => by cases h)
        intro s hs
        cases hs
        exact ⟨hB, c0, c1, c2, c3, c4, c5, c6, c7, c8, c9, c10, c11, c12, c13, (fun _ => rfl), c15, c16, c17, c18, c19, d20⟩
      case s15r1 =>
        rintro L u W ⟨hB, c0, c1, c2, c3, c4, c5, c6, c7, c8, c9, c10, c11, c12, c13, c14, c15, c16, c17, c18, c19, d20⟩ hf hd K hK
        dsimp only at hK
        clear hd
        go_simp
        refine hK _ _ ?_ (fun h => by cases h)
        intro s hs
        cases hs
        exact ⟨hB, c0, c1, c2, c3, c4, c5, c6, c7, c8, c9, c10, c11, c12, c13, c14, (fun _ => rfl), c16, c17, c18, c19, d20⟩
      case s16r1 =>
        rintro L u W ⟨hB, c0, c1, c2, c3, c4, c5, c6, c7, c8, c9, c10, c11, c12, c13, c14, c15, c16, c17, c18, c19, d20⟩ hf hd K hK
        dsimp only at hK
        have hd14 : L 14 = true := (by first | (refine hd ⟨14, .data⟩ ?_ rfl; simp; done) | (refine hd ⟨14, .guard⟩ ?_ rfl; simp; done) | (refine hd ⟨14, .phase⟩ ?_ rfl; simp; done) | (refine hd ⟨14, .chain⟩ ?_ rfl; simp; done))
        have hd15 : L 15 = true := (by first | (refine hd ⟨15, .data⟩ ?_ rfl; simp; done) | (refine hd ⟨15, .guard⟩ ?_ rfl; simp; done) | (refine hd ⟨15, .phase⟩ ?_ rfl; simp; done) | (refine hd ⟨15, .chain⟩ ?_ rfl; simp; done))
        have e14 := c14 hd14
        rw [e14] at hK
        have e15 := c15 hd15
        rw [e15] at hK
        clear hd14
        clear hd15
        clear hd
        go_simp
        go_wp2_with (go_at_call 34; ((with_reducible refine (G2.out _).mono ?_); rintro e w5 ⟨rfl, hb⟩))
        refine hK _ _ ?_ (fun h => by cases h)
        intro s hs
        cases hs
        exact ⟨hB.trans (hb.mono hB.size), c0, c1, c2, c3, c4, c5, c6, c7, c8, c9, c10, c11, c12, c13, c14, c15, (fun _ => rfl), c17, c18, (fun h => by obtain ⟨g, x19_0, x19_1, k1, k2, k3, k4⟩ := c19 h; exact ⟨g, x19_0, x19_1, k1, k2, k3.keep hb, k4⟩), d20⟩
      case s17r1 =>
        rintro L u W ⟨hB, c0, c1, c2, c3, c4, c5, c6, c7, c8, c9, c10, c11, c12, c13, c14, c15, c16, c17, c18, c19, d20⟩ hf hd K hK
        dsimp only at hK
        have hd10 : L 10 = true := (by first | (refine hd ⟨10, .data⟩ ?_ rfl; simp; done) | (refine hd ⟨10, .guard⟩ ?_ rfl; simp; done) | (refine hd ⟨10, .phase⟩ ?_ rfl; simp; done) | (refine hd ⟨10, .chain⟩ ?_ rfl; simp; done))
        have hd16 : L 16 = true := (by first | (refine hd ⟨16, .data⟩ ?_ rfl; simp; done) | (refine hd ⟨16, .guard⟩ ?_ rfl; simp; done) | (refine hd ⟨16, .phase⟩ ?_ rfl; simp; done) | (refine hd ⟨16, .chain⟩ ?_ rfl; simp; done))
        have e10 := c10 hd10
        rw [e10] at hK
        have e16 := c16 hd16
        rw [e16] at hK
        clear hd10
        clear hd16
        clear hd
        go_simp
        refine hK _ _ ?_ (fun h => by cases h)
        intro s hs
        cases hs
        exact ⟨hB, c0, c1, c2, c3, c4, c5, c6, c7, c8, c9, c10, c11, c12, c13, c14, c15, c16, (fun _ => rfl), c18, c19, d20⟩
      case s18r1 =>
        rintro L u W ⟨hB, c0, c1, c2, c3, c4, c5, c6, c7, c8, c9, c10, c11, c12, c13, c14, c15, c16, c17, c18, c19, d20⟩ hf hd K hK
        dsimp only at hK
        have hd8 : L 8 = true := (by first | (refine hd ⟨8, .data⟩ ?_ rfl; simp; done) | (refine hd ⟨8, .guard⟩ ?_ rfl; simp; done) | (refine hd ⟨8, .phase⟩ ?_ rfl; simp; done) | (refine hd ⟨8, .chain⟩ ?_ rfl; simp; done))
        have hd17 : L 17 = true := (by first | (refine hd ⟨17, .data⟩ ?_ rfl; simp; done) | (refine hd ⟨17, .guard⟩ ?_ rfl; simp; done) | (refine hd ⟨17, .phase⟩ ?_ rfl; simp; done) | (refine hd ⟨17, .chain⟩ ?_ rfl; simp; done))
        have e8 := c8 hd8
        rw [e8] at hK
        have e17 := c17 hd17
        rw [e17] at hK
        clear hd8
        clear hd17
        clear hd
        go_simp
        refine hK _ _ ?_ (fun h => by cases h)
        intro s hs
        cases hs
        exact ⟨hB, c0, c1, c2, c3, c4, c5, c6, c7, c8, c9, c10, c11, c12, c13, c14, c15, c16, c17, (fun _ => rfl), c19, d20⟩
      case s19r1 =>
        rintro L u W ⟨hB, c0, c1, c2, c3, c4, c5, c6, c7, c8, c9, c10, c11, c12, c13, c14, c15, c16, c17, c18, c19, d20⟩ hf hd K hK
        dsimp only at hK
        go_simp
        have hb : Below W.heap.size W (W.alloc (.cells #[.int .i64 0, .int .i64 0] 23)) := (Below.refl _ W).alloc (Nat.le_refl _) _
        refine hK _ _ ?_ (fun h => by cases h)
        intro s hs
        cases hs
        exact ⟨hB.trans (hb.mono hB.size), c0, c1, c2, c3, c4, c5, c6, c7, c8, c9, c10, c11, c12, c13, c14, c15, c16, c17, c18, (fun _ => ⟨_, _, _, rfl, hB.size, Lok.new _ _ _, fun h => absurd (d20 h) (by rw [hf]; decide)⟩), (fun _ => rfl)⟩
      case s20r1 =>
        rintro L u W ⟨hB, c0, c1, c2, c3, c4, c5, c6, c7, c8, c9, c10, c11, c12, c13, c14, c15, c16, c17, c18, c19, d20⟩ hf hd K hK
        dsimp only at hK
        have hd19 : L 19 = true := hd ⟨19, .data⟩ (by simp) rfl
        have hd18 : L 18 = true := (by first | (refine hd ⟨18, .data⟩ ?_ rfl; simp; done) | (refine hd ⟨18, .guard⟩ ?_ rfl; simp; done) | (refine hd ⟨18, .phase⟩ ?_ rfl; simp; done) | (refine hd ⟨18, .chain⟩ ?_ rfl; simp; done))
        obtain ⟨g, x19_0, x19_1, e19, k2, k3, k4⟩ := c19 hd19
        rw [e19] at hK
        have e18 := c18 hd18
        rw [e18] at hK
        have t0 := k3.cell (i := 0) rfl
        have f0 := k3.frozen 0
        have t1 := k3.cell (i := 1) rfl
        have f1 := k3.frozen 1
        have HH := Lib.hid (And.intro trivial trivial)
        clear hd
        have hd19' := Lib.hid hd19
        clear hd19
        have hd18' := Lib.hid hd18
        clear hd18
        go_simp
        have hd19 := hd19'.out
        have hd18 := hd18'.out
        have hlok := (k3.set (i := 0) (v := .int .i64 (a1 + q1))).set (i := 1) (v := .int .i64 (a2 + q2))
        refine hK undef _ (fun s h => by cases h) (fun _ => ?_)
        exact ⟨(hB.setCell k2 _).setCell k2 _, c0, c1, c2, c3, c4, c5, c6, c7, c8, c9, c10, c11, c12, c13, c14, c15, c16, c17, (fun _ => rfl), (fun _ => ⟨g, _, _, rfl, k2, hlok, fun _ => ⟨rfl, rfl⟩⟩), (fun _ => hd19)⟩
    case finr1 =>
      rintro L u W hL ⟨hB, c0, c1, c2, c3, c4, c5, c6, c7, c8, c9, c10, c11, c12, c13, c14, c15, c16, c17, c18, c19, d20⟩
      have e0 := c0 (hL 0 (by decide))
      have e1 := c1 (hL 1 (by decide))
      have e2 := c2 (hL 2 (by decide))
      have e3 := c3 (hL 3 (by decide))
      have e4 := c4 (hL 4 (by decide))
      have e5 := c5 (hL 5 (by decide))
      have e6 := c6 (hL 6 (by decide))
      have e7 := c7 (hL 7 (by decide))
      have e8 := c8 (hL 8 (by decide))
      have e9 := c9 (hL 9 (by decide))
      have e10 := c10 (hL 10 (by decide))
      have e11 := c11 (hL 11 (by decide))
      have e12 := c12 (hL 12 (by decide))
      have e13 := c13 (hL 13 (by decide))
      have e14 := c14 (hL 14 (by decide))
      have e15 := c15 (hL 15 (by decide))
      have e16 := c16 (hL 16 (by decide))
      have e17 := c17 (hL 17 (by decide))
      have e18 := c18 (hL 18 (by decide))
      obtain ⟨g19, x19_0, x19_1, e19, hg19, hlok19, hst19⟩ := c19 (hL 19 (by decide))
      obtain ⟨rfl, rfl⟩ := hst19 (hL 20 (by decide))
      clear hst19
      clear hL c0 c1 c2 c3 c4 c5 c6 c7 c8 c9 c10 c11 c12 c13 c14 c15 c16 c17 c18 c19 d20
      try simp only [e0, e1, e2, e3, e4, e5, e6, e7, e8, e9, e10, e11, e12, e13, e14, e15, e16, e17, e18, e19]
      clear e0 e1 e2 e3 e4 e5 e6 e7 e8 e9 e10 e11 e12 e13 e14 e15 e16 e17 e18 e19
      replace HB := Lib.hid (HB.out.trans (hB.mono HB.out.size))
      replace kr := Lib.hid (kr.out.keep hB)
      replace ks := Lib.hid (ks.out.keep hB)
      clear kx kp kq km kd hB
      have z0 := hlok19.cell (i := 0) rfl
      have z1 := hlok19.cell (i := 1) rfl
      have r0 := kr.out.cell (i := 0) rfl
      have r1 := kr.out.cell (i := 1) rfl
      have s0 := ks.out.cell (i := 0) rfl
      have s1 := ks.out.cell (i := 1) rfl
      have fr0 := kr.out.frozen 0
      have fr1 := kr.out.frozen 1
      have fs0 := ks.out.frozen 0
      have fs1 := ks.out.frozen 1
      have x1 : g19 ≠ w.heap.size + 3 := by omega
      have x2 : g19 ≠ w.heap.size + 4 := by omega
      go_wp2_with fail
      exact bodyPost_ret (v := .tuple #[.agg #[.int .i64 (a1 + q1), .int .i64 (a2 + q2)], .int .i64 2, .agg #[.int .i64 (r * r), .int .i64 n]]) (by simp [results, Try.results22, go_sem, r0, r1, s0, s1]) rfl ⟨rfl, (((HB.out.setCell (by simp <;> omega) _).setCell (by simp <;> omega) _).setCell (by simp <;> omega) _).setCell (by simp <;> omega) _⟩
theorem foot_any (x y a1 a2 b1 b2 : Int)
    (hp : s2 x y = true) (ha : s2 a1 a2 = true) (hb : s2 b1 b2 = true) (w : World) :
    Calls Try.prog 22 #[.agg #[.int .i64 x, .int .i64 y], .agg #[.int .i64 a1, .int .i64 a2], .agg #[.int .i64 b1, .int .i64 b2]] w fun e' w' => e' = .returned (.tuple #[.agg #[.int .i64 (fX x y a1 a2 b1 b2), .int .i64 (fY x y a1 a2 b1 b2)], .int .i64 (fK x y a1 a2 b1 b2), .agg #[.int .i64 (fN x y a1 a2 b1 b2), .int .i64 (fD x y a1 a2 b1 b2)]]) ∧ Below w.heap.size w w' := by
  unfold fX fY fN fD fK
  rcases eK_ways (em x y a1 a2 b1 b2) (sq a1 a2 b1 b2) with ⟨h, e⟩ | ⟨h, k, e⟩ | ⟨h, k, e⟩ <;> rw [e]
  · simp only [w3_0]; exact foot_0 x y a1 a2 b1 b2 h hp ha hb w
  · simp only [w3_1]; exact foot_1 x y a1 a2 b1 b2 h k hp ha hb w
  · simp only [w3_2]; exact foot_2 x y a1 a2 b1 b2 h k hp ha hb w
set_option maxRecDepth 100000 in
set_option maxHeartbeats 4000000 in
theorem edge_any (x y a1 a2 b1 b2 : Int) (t : Bool) (ht : (s2 x y && s2 a1 a2 && s2 b1 b2) = t) (w : World) :
    Calls Try.prog 8 #[.agg #[.int .i64 x, .int .i64 y], .agg #[.int .i64 a1, .int .i64 a2], .agg #[.int .i64 b1, .int .i64 b2]] w fun e' w' => e' = .returned (.tuple #[.agg #[.int .i64 (vF t (fX x y a1 a2 b1 b2)), .int .i64 (vF t (fY x y a1 a2 b1 b2))], .int .i64 (vF t (fK x y a1 a2 b1 b2)), .agg #[.int .i64 (vF t (fN x y a1 a2 b1 b2)), .int .i64 (vF t (fD x y a1 a2 b1 b2))], .int .i64 (rE t)]) ∧ Below w.heap.size w w' := by
  have HB := Lib.hid (Below.refl w.heap.size w)
  have S := Lib.hid (fun g T W h => small2_3 x y a1 a2 b1 b2 t ht g T W h)
  cases t with
  | false =>
    simp only [vF_no, show rE false = 5 from rfl]
    clear ht
    go_enter Try.func8, Try.ntmps8
    go_upto_region 1 with fail
    have hbx := below_new1 w (.cells #[.int .i64 x, .int .i64 y] 23)
    have zx : (w.alloc (.cells #[.int .i64 x, .int .i64 y] 23)).heap.size = w.heap.size + 1 := by simp
    have HB := Lib.hid hbx
    have kx := Lib.hid (Lok.new w 23 #[.int .i64 x, .int .i64 y])
    clear hbx
    generalize w.alloc (.cells #[.int .i64 x, .int .i64 y] 23) = Vx at *
    have hbp := below_new1 Vx (.cells #[.int .i64 a1, .int .i64 a2] 23)
    replace kx := Lib.hid (kx.out.keep hbp)
    have zp : (Vx.alloc (.cells #[.int .i64 a1, .int .i64 a2] 23)).heap.size = Vx.heap.size + 1 := by simp
    replace HB := Lib.hid (HB.out.trans (hbp.mono HB.out.size))
    have kp := Lib.hid (Lok.new Vx 23 #[.int .i64 a1, .int .i64 a2])
    clear hbp
    generalize Vx.alloc (.cells #[.int .i64 a1, .int .i64 a2] 23) = Vp at *
    rw [zx] at kp zp
    have hbq := below_new1 Vp (.cells #[.int .i64 b1, .int .i64 b2] 23)
    replace kx := Lib.hid (kx.out.keep hbq)
    replace kp := Lib.hid (kp.out.keep hbq)
    have zq : (Vp.alloc (.cells #[.int .i64 b1, .int .i64 b2] 23)).heap.size = Vp.heap.size + 1 := by simp
    replace HB := Lib.hid (HB.out.trans (hbq.mono HB.out.size))
    have kq := Lib.hid (Lok.new Vp 23 #[.int .i64 b1, .int .i64 b2])
    clear hbq
    generalize Vp.alloc (.cells #[.int .i64 b1, .int .i64 b2] 23) = Vq at *
    rw [zp] at kq zq
    have hbr := below_new1 Vq (.cells #[.int .i64 0, .int .i64 0] 23)
    replace kx := Lib.hid (kx.out.keep hbr)
    replace kp := Lib.hid (kp.out.keep hbr)
    replace kq := Lib.hid (kq.out.keep hbr)
    have zr : (Vq.alloc (.cells #[.int .i64 0, .int .i64 0] 23)).heap.size = Vq.heap.size + 1 := by simp
    replace HB := Lib.hid (HB.out.trans (hbr.mono HB.out.size))
    have kr := Lib.hid (Lok.new Vq 23 #[.int .i64 0, .int .i64 0])
    clear hbr
    generalize Vq.alloc (.cells #[.int .i64 0, .int .i64 0] 23) = Vr at *
    rw [zq] at kr zr
    have hbs := below_new1 Vr (.cells #[.int .i64 0, .int .i64 0] 29)
    replace kx := Lib.hid (kx.out.keep hbs)
    replace kp := Lib.hid (kp.out.keep hbs)
    replace kq := Lib.hid (kq.out.keep hbs)
    replace kr := Lib.hid (kr.out.keep hbs)
    have zs : (Vr.alloc (.cells #[.int .i64 0, .int .i64 0] 29)).heap.size = Vr.heap.size + 1 := by simp
    replace HB := Lib.hid (HB.out.trans (hbs.mono HB.out.size))
    have ks := Lib.hid (Lok.new Vr 29 #[.int .i64 0, .int .i64 0])
    clear hbs
    generalize Vr.alloc (.cells #[.int .i64 0, .int .i64 0] 29) = Vs at *
    rw [zr] at ks
    clear zx zp zq zr zs
    have x0 := kx.out.cell (i := 0) rfl
    have x1 := kx.out.cell (i := 1) rfl
    have p0 := kp.out.cell (i := 0) rfl
    have p1 := kp.out.cell (i := 1) rfl
    have q0 := kq.out.cell (i := 0) rfl
    have q1 := kq.out.cell (i := 1) rfl
    go_wp2_with fail
    clear x0 x1 p0 p1 q0 q1
    have hbu := below_new1 Vs (.cells #[.int .i64 x, .int .i64 y, .int .i64 a1, .int .i64 a2, .int .i64 b1, .int .i64 b2] 23)
    replace kx := Lib.hid (kx.out.keep hbu)
    replace kp := Lib.hid (kp.out.keep hbu)
    replace kq := Lib.hid (kq.out.keep hbu)
    replace kr := Lib.hid (kr.out.keep hbu)
    replace ks := Lib.hid (ks.out.keep hbu)
    have zu : (Vs.alloc (.cells #[.int .i64 x, .int .i64 y, .int .i64 a1, .int .i64 a2, .int .i64 b1, .int .i64 b2] 23)).heap.size = Vs.heap.size + 1 := by simp
    replace HB := Lib.hid (HB.out.trans (hbu.mono HB.out.size))
    have ku := Lib.hid (Lok.new Vs 23 #[.int .i64 x, .int .i64 y, .int .i64 a1, .int .i64 a2, .int .i64 b1, .int .i64 b2])
    clear hbu
    generalize Vs.alloc (.cells #[.int .i64 x, .int .i64 y, .int .i64 a1, .int .i64 a2, .int .i64 b1, .int .i64 b2] 23) = Vu at *
    clear zu
    generalize Vs.heap.size = gu at *
    (((with_reducible refine (S.out _ _ _ ku.out).mono ?_); rintro e w1 ⟨rfl, hb1⟩); replace HB := Lib.hid (HB.out.trans (hb1.mono HB.out.size)); replace kx := Lib.hid (kx.out.keep hb1); replace kp := Lib.hid (kp.out.keep hb1); replace kq := Lib.hid (kq.out.keep hb1); replace kr := Lib.hid (kr.out.keep hb1); replace ks := Lib.hid (ks.out.keep hb1); clear hb1)
    clear ku
    have r0 := kr.out.cell (i := 0) rfl
    have r1 := kr.out.cell (i := 1) rfl
    have s0 := ks.out.cell (i := 0) rfl
    have s1 := ks.out.cell (i := 1) rfl
    have fr0 := kr.out.frozen 0
    have fr1 := kr.out.frozen 1
    have fs0 := ks.out.frozen 0
    have fs1 := ks.out.frozen 1
    go_wp2_with fail
    exact bodyPost_ret (v := .tuple #[.agg #[.int .i64 0, .int .i64 0], .int .i64 0, .agg #[.int .i64 0, .int .i64 0], .int .i64 5]) (by simp [results, Try.results8, go_sem, r0, r1, s0, s1]) rfl ⟨rfl, (((HB.out.setCell (by simp <;> omega) _).setCell (by simp <;> omega) _).setCell (by simp <;> omega) _).setCell (by simp <;> omega) _⟩
  | true =>
    simp only [vF_yes, show rE true = 0 from rfl]
    obtain ⟨hp, ha, hb⟩ := small_of3 ht
    have F := Lib.hid (fun W => foot_any x y a1 a2 b1 b2 hp ha hb W)
    generalize fX x y a1 a2 b1 b2 = v0 at *
    generalize fY x y a1 a2 b1 b2 = v1 at *
    generalize fK x y a1 a2 b1 b2 = v2 at *
    generalize fN x y a1 a2 b1 b2 = v3 at *
    generalize fD x y a1 a2 b1 b2 = v4 at *
    clear ht hp ha hb
    go_enter Try.func8, Try.ntmps8
    go_upto_region 1 with fail
    have hbx := below_new1 w (.cells #[.int .i64 x, .int .i64 y] 23)
    have zx : (w.alloc (.cells #[.int .i64 x, .int .i64 y] 23)).heap.size = w.heap.size + 1 := by simp
    have HB := Lib.hid hbx
    have kx := Lib.hid (Lok.new w 23 #[.int .i64 x, .int .i64 y])
    clear hbx
    generalize w.alloc (.cells #[.int .i64 x, .int .i64 y] 23) = Vx at *
    have hbp := below_new1 Vx (.cells #[.int .i64 a1, .int .i64 a2] 23)
    replace kx := Lib.hid (kx.out.keep hbp)
    have zp : (Vx.alloc (.cells #[.int .i64 a1, .int .i64 a2] 23)).heap.size = Vx.heap.size + 1 := by simp
    replace HB := Lib.hid (HB.out.trans (hbp.mono HB.out.size))
    have kp := Lib.hid (Lok.new Vx 23 #[.int .i64 a1, .int .i64 a2])
    clear hbp
    generalize Vx.alloc (.cells #[.int .i64 a1, .int .i64 a2] 23) = Vp at *
    rw [zx] at kp zp
    have hbq := below_new1 Vp (.cells #[.int .i64 b1, .int .i64 b2] 23)
    replace kx := Lib.hid (kx.out.keep hbq)
    replace kp := Lib.hid (kp.out.keep hbq)
    have zq : (Vp.alloc (.cells #[.int .i64 b1, .int .i64 b2] 23)).heap.size = Vp.heap.size + 1 := by simp
    replace HB := Lib.hid (HB.out.trans (hbq.mono HB.out.size))
    have kq := Lib.hid (Lok.new Vp 23 #[.int .i64 b1, .int .i64 b2])
    clear hbq
    generalize Vp.alloc (.cells #[.int .i64 b1, .int .i64 b2] 23) = Vq at *
    rw [zp] at kq zq
    have hbr := below_new1 Vq (.cells #[.int .i64 0, .int .i64 0] 23)
    replace kx := Lib.hid (kx.out.keep hbr)
    replace kp := Lib.hid (kp.out.keep hbr)
    replace kq := Lib.hid (kq.out.keep hbr)
    have zr : (Vq.alloc (.cells #[.int .i64 0, .int .i64 0] 23)).heap.size = Vq.heap.size + 1 := by simp
    replace HB := Lib.hid (HB.out.trans (hbr.mono HB.out.size))
    have kr := Lib.hid (Lok.new Vq 23 #[.int .i64 0, .int .i64 0])
    clear hbr
    generalize Vq.alloc (.cells #[.int .i64 0, .int .i64 0] 23) = Vr at *
    rw [zq] at kr zr
    have hbs := below_new1 Vr (.cells #[.int .i64 0, .int .i64 0] 29)
    replace kx := Lib.hid (kx.out.keep hbs)
    replace kp := Lib.hid (kp.out.keep hbs)
    replace kq := Lib.hid (kq.out.keep hbs)
    replace kr := Lib.hid (kr.out.keep hbs)
    have zs : (Vr.alloc (.cells #[.int .i64 0, .int .i64 0] 29)).heap.size = Vr.heap.size + 1 := by simp
    replace HB := Lib.hid (HB.out.trans (hbs.mono HB.out.size))
    have ks := Lib.hid (Lok.new Vr 29 #[.int .i64 0, .int .i64 0])
    clear hbs
    generalize Vr.alloc (.cells #[.int .i64 0, .int .i64 0] 29) = Vs at *
    rw [zr] at ks
    clear zx zp zq zr zs
    have x0 := kx.out.cell (i := 0) rfl
    have x1 := kx.out.cell (i := 1) rfl
    have p0 := kp.out.cell (i := 0) rfl
    have p1 := kp.out.cell (i := 1) rfl
    have q0 := kq.out.cell (i := 0) rfl
    have q1 := kq.out.cell (i := 1) rfl
    go_wp2_with fail
    clear x0 x1 p0 p1 q0 q1
    have hbu := below_new1 Vs (.cells #[.int .i64 x, .int .i64 y, .int .i64 a1, .int .i64 a2, .int .i64 b1, .int .i64 b2] 23)
    replace kx := Lib.hid (kx.out.keep hbu)
    replace kp := Lib.hid (kp.out.keep hbu)
    replace kq := Lib.hid (kq.out.keep hbu)
    replace kr := Lib.hid (kr.out.keep hbu)
    replace ks := Lib.hid (ks.out.keep hbu)
    have zu : (Vs.alloc (.cells #[.int .i64 x, .int .i64 y, .int .i64 a1, .int .i64 a2, .int .i64 b1, .int .i64 b2] 23)).heap.size = Vs.heap.size + 1 := by simp
    replace HB := Lib.hid (HB.out.trans (hbu.mono HB.out.size))
    have ku := Lib.hid (Lok.new Vs 23 #[.int .i64 x, .int .i64 y, .int .i64 a1, .int .i64 a2, .int .i64 b1, .int .i64 b2])
    clear hbu
    generalize Vs.alloc (.cells #[.int .i64 x, .int .i64 y, .int .i64 a1, .int .i64 a2, .int .i64 b1, .int .i64 b2] 23) = Vu at *
    clear zu
    generalize Vs.heap.size = gu at *
    (((with_reducible refine (S.out _ _ _ ku.out).mono ?_); rintro e w1 ⟨rfl, hb1⟩); replace HB := Lib.hid (HB.out.trans (hb1.mono HB.out.size)); replace kx := Lib.hid (kx.out.keep hb1); replace kp := Lib.hid (kp.out.keep hb1); replace kq := Lib.hid (kq.out.keep hb1); replace kr := Lib.hid (kr.out.keep hb1); replace ks := Lib.hid (ks.out.keep hb1); clear hb1)
    clear ku
    go_upto_region 3 with fail
    have x0 := kx.out.cell (i := 0) rfl
    have x1 := kx.out.cell (i := 1) rfl
    have p0 := kp.out.cell (i := 0) rfl
    have p1 := kp.out.cell (i := 1) rfl
    have q0 := kq.out.cell (i := 0) rfl
    have q1 := kq.out.cell (i := 1) rfl
    go_wp2_with fail
    clear x0 x1 p0 p1 q0 q1
    (((with_reducible refine (F.out _).mono ?_); rintro e w2 ⟨rfl, hb2⟩); replace HB := Lib.hid (HB.out.trans (hb2.mono HB.out.size)); replace kx := Lib.hid (kx.out.keep hb2); replace kp := Lib.hid (kp.out.keep hb2); replace kq := Lib.hid (kq.out.keep hb2); replace kr := Lib.hid (kr.out.keep hb2); replace ks := Lib.hid (ks.out.keep hb2); clear hb2)
    go_upto_region 4 with fail
    have hlt := ks.out.lt
    have hbm := below_new1 w2 (.cells #[.int .i64 v0, .int .i64 v1] 23)
    replace kx := Lib.hid (kx.out.keep hbm)
    replace kp := Lib.hid (kp.out.keep hbm)
    replace kq := Lib.hid (kq.out.keep hbm)
    replace kr := Lib.hid (kr.out.keep hbm)
    replace ks := Lib.hid (ks.out.keep hbm)
    have zm : (w2.alloc (.cells #[.int .i64 v0, .int .i64 v1] 23)).heap.size = w2.heap.size + 1 := by simp
    replace HB := Lib.hid (HB.out.trans (hbm.mono HB.out.size))
    have km := Lib.hid (Lok.new w2 23 #[.int .i64 v0, .int .i64 v1])
    clear hbm
    generalize w2.alloc (.cells #[.int .i64 v0, .int .i64 v1] 23) = Vm at *
    have hbn := below_new1 Vm (.cells #[.int .i64 v3, .int .i64 v4] 29)
    replace kx := Lib.hid (kx.out.keep hbn)
    replace kp := Lib.hid (kp.out.keep hbn)
    replace kq := Lib.hid (kq.out.keep hbn)
    replace kr := Lib.hid (kr.out.keep hbn)
    replace ks := Lib.hid (ks.out.keep hbn)
    replace km := Lib.hid (km.out.keep hbn)
    have zn : (Vm.alloc (.cells #[.int .i64 v3, .int .i64 v4] 29)).heap.size = Vm.heap.size + 1 := by simp
    replace HB := Lib.hid (HB.out.trans (hbn.mono HB.out.size))
    have kn := Lib.hid (Lok.new Vm 29 #[.int .i64 v3, .int .i64 v4])
    clear hbn
    generalize Vm.alloc (.cells #[.int .i64 v3, .int .i64 v4] 29) = Vn at *
    rw [zm] at kn
    clear zm zn
    generalize w2.heap.size = gm at *
    have l3 := kr.out.lt
    have hbound : w.heap.size + 3 ≤ Vn.heap.size := by omega
    have o3 := kr.out
    have o5 := ks.out
    have l1 := km.out
    have l2 := kn.out
    refine wp_region_rel (by kernel_rfl) [29, 30, 31, 7, 9] ?Fr2 ?hFr2
      (fun L u W => Below (w.heap.size + 3) Vn W ∧ (L 0 = true → u 29 = .agg #[.int .i64 v0, .int .i64 v1]) ∧ (L 1 = true → u 30 = .int .i64 v2) ∧ (L 2 = true → u 31 = .agg #[.int .i64 v3, .int .i64 v4]) ∧ (L 4 = true → u 7 = .int .i64 v2) ∧ (L 6 = true → u 9 = .int .i64 0) ∧ (L 3 = false → Lok W (w.heap.size + 3) 23 #[.int .i64 0, .int .i64 0]) ∧ (L 3 = true → Lok W (w.heap.size + 3) 23 #[.int .i64 v0, .int .i64 v1]) ∧ (L 5 = false → Lok W (w.heap.size + 4) 29 #[.int .i64 0, .int .i64 0]) ∧ (L 5 = true → Lok W (w.heap.size + 4) 29 #[.int .i64 v3, .int .i64 v4]) ∧ Lok W (gm) 23 #[.int .i64 v0, .int .i64 v1] ∧ Lok W (gm + 1) 29 #[.int .i64 v3, .int .i64 v4]) (by kernel_rfl) (by kernel_rfl) 7 rfl ?h0r2 ?stepr2 ?finr2
    case hFr2 => intro u; simp only [putAll, Act.put, List.setIfInBounds_toArray, List.set]; exact rfl
    case h0r2 => intro L u hL; exact ⟨(Below.refl _ _).drew, (fun h => by simp [hL] at h), (fun h => by simp [hL] at h), (fun h => by simp [hL] at h), (fun h => by simp [hL] at h), (fun h => by simp [hL] at h), (fun _ => by assumption), (fun h => by simp [hL] at h), (fun _ => by assumption), (fun h => by simp [hL] at h), (by first | assumption | (apply Lok.drew; assumption)), (by first | assumption | (apply Lok.drew; assumption))⟩
    case stepr2 =>
      refine ops_all (ops_cons ?s0r2 (ops_cons ?s1r2 (ops_cons ?s2r2 (ops_cons ?s3r2 (ops_cons ?s4r2 (ops_cons ?s5r2 (ops_cons ?s6r2 (ops_nil))))))))
      case s0r2 =>
        rintro L u W ⟨hB, c0, c1, c2, c4, c6, o3, wn3, o5, wn5, lk1, lk2⟩ hf hd K hK
        dsimp only at hK
        have t0 := lk1.cell (i := 0) rfl
        have t1 := lk1.cell (i := 1) rfl
        clear hd
        go_simp
        refine hK _ _ ?_ (fun h => by cases h)
        intro s hs
        cases hs
        exact ⟨hB, (fun _ => rfl), c1, c2, c4, c6, o3, wn3, o5, wn5, lk1, lk2⟩
      case s1r2 =>
        rintro L u W ⟨hB, c0, c1, c2, c4, c6, o3, wn3, o5, wn5, lk1, lk2⟩ hf hd K hK
        dsimp only at hK
        clear hd
        go_simp
        refine hK _ _ ?_ (fun h => by cases h)
        intro s hs
        cases hs
        exact ⟨hB, c0, (fun _ => rfl), c2, c4, c6, o3, wn3, o5, wn5, lk1, lk2⟩
      case s2r2 =>
        rintro L u W ⟨hB, c0, c1, c2, c4, c6, o3, wn3, o5, wn5, lk1, lk2⟩ hf hd K hK
        dsimp only at hK
        have t0 := lk2.cell (i := 0) rfl
        have t1 := lk2.cell (i := 1) rfl
        clear hd
        go_simp
        refine hK _ _ ?_ (fun h => by cases h)
        intro s hs
        cases hs
        exact ⟨hB, c0, c1, (fun _ => rfl), c4, c6, o3, wn3, o5, wn5, lk1, lk2⟩
      case s3r2 =>
        rintro L u W ⟨hB, c0, c1, c2, c4, c6, o3, wn3, o5, wn5, lk1, lk2⟩ hf hd K hK
        dsimp only at hK
        have hd0 : L 0 = true := (by first | (refine hd ⟨0, .data⟩ ?_ rfl; simp; done) | (refine hd ⟨0, .phase⟩ ?_ rfl; simp; done))
        have k3 := o3 hf
        have e0 := c0 hd0
        rw [e0] at hK
        have t0 := k3.cell (i := 0) rfl
        have f0 := k3.frozen 0
        have t1 := k3.cell (i := 1) rfl
        have f1 := k3.frozen 1
        clear hd
        have hd0' := Lib.hid hd0
        clear hd0
        go_simp
        have hd0 := hd0'.out
        have hlok := (k3.set (i := 0) (v := .int .i64 v0)).set (i := 1) (v := .int .i64 v1)
        refine hK undef _ (fun s h => by cases h) (fun _ => ?_)
        exact ⟨(hB.setCell (by first | exact Nat.le_refl _ | assumption | (show _ ≤ _; omega) | (show ((w.heap.size + 3)) ≤ (w.heap.size + 3); omega)) _).setCell (by first | exact Nat.le_refl _ | assumption | (show _ ≤ _; omega) | (show ((w.heap.size + 3)) ≤ (w.heap.size + 3); omega)) _, (fun _ => rfl), c1, c2, c4, c6, (fun h => by cases h), (fun _ => hlok), (fun h => (((o5 h).far (by first | assumption | omega)).far (by first | assumption | omega))), (fun h => (((wn5 h).far (by first | assumption | omega)).far (by first | assumption | omega))), ((lk1.far (by first | assumption | omega)).far (by first | assumption | omega)), ((lk2.far (by first | assumption | omega)).far (by first | assumption | omega))⟩
      case s4r2 =>
        rintro L u W ⟨hB, c0, c1, c2, c4, c6, o3, wn3, o5, wn5, lk1, lk2⟩ hf hd K hK
        dsimp only at hK
        have hd1 : L 1 = true := (by first | (refine hd ⟨1, .data⟩ ?_ rfl; simp; done) | (refine hd ⟨1, .guard⟩ ?_ rfl; simp; done) | (refine hd ⟨1, .phase⟩ ?_ rfl; simp; done) | (refine hd ⟨1, .chain⟩ ?_ rfl; simp; done))
        have e1 := c1 hd1
        rw [e1] at hK
        clear hd1
        clear hd
        go_simp
        refine hK _ _ ?_ (fun h => by cases h)
        intro s hs
        cases hs
        exact ⟨hB, c0, c1, c2, (fun _ => rfl), c6, o3, wn3, o5, wn5, lk1, lk2⟩
      case s5r2 =>
        rintro L u W ⟨hB, c0, c1, c2, c4, c6, o3, wn3, o5, wn5, lk1, lk2⟩ hf hd K hK
        dsimp only at hK
        have hd2 : L 2 = true := (by first | (refine hd ⟨2, .data⟩ ?_ rfl; simp; done) | (refine hd ⟨2, .phase⟩ ?_ rfl; simp; done))
        have k3 := o5 hf
        have e2 := c2 hd2
        rw [e2] at hK
        have t0 := k3.cell (i := 0) rfl
        have f0 := k3.frozen 0
        have t1 := k3.cell (i := 1) rfl
        have f1 := k3.frozen 1
        clear hd
        have hd2' := Lib.hid hd2
        clear hd2
        go_simp
        have hd2 := hd2'.out
        have hlok := (k3.set (i := 0) (v := .int .i64 v3)).set (i := 1) (v := .int .i64 v4)
        refine hK undef _ (fun s h => by cases h) (fun _ => ?_)
        exact ⟨(hB.setCell (by first | exact Nat.le_refl _ | assumption | (show _ ≤ _; omega) | (show ((w.heap.size + 3)) ≤ (w.heap.size + 4); omega)) _).setCell (by first | exact Nat.le_refl _ | assumption | (show _ ≤ _; omega) | (show ((w.heap.size + 3)) ≤ (w.heap.size + 4); omega)) _, c0, c1, (fun _ => rfl), c4, c6, (fun h => (((o3 h).far (by first | assumption | omega)).far (by first | assumption | omega))), (fun h => (((wn3 h).far (by first | assumption | omega)).far (by first | assumption | omega))), (fun h => by cases h), (fun _ => hlok), ((lk1.far (by first | assumption | omega)).far (by first | assumption | omega)), ((lk2.far (by first | assumption | omega)).far (by first | assumption | omega))⟩
      case s6r2 =>
        rintro L u W ⟨hB, c0, c1, c2, c4, c6, o3, wn3, o5, wn5, lk1, lk2⟩ hf hd K hK
        dsimp only at hK
        clear hd
        go_simp
        refine hK _ _ ?_ (fun h => by cases h)
        intro s hs
        cases hs
        exact ⟨hB, c0, c1, c2, c4, (fun _ => rfl), o3, wn3, o5, wn5, lk1, lk2⟩
    case finr2 =>
      rintro L u W hL ⟨hB, c0, c1, c2, c4, c6, o3, wn3, o5, wn5, lk1, lk2⟩
      have e0 := c0 (hL 0 (by decide))
      have e1 := c1 (hL 1 (by decide))
      have e2 := c2 (hL 2 (by decide))
      have e4 := c4 (hL 4 (by decide))
      have e6 := c6 (hL 6 (by decide))
      have hlok3 := wn3 (hL 3 (by decide))
      have hlok5 := wn5 (hL 5 (by decide))
      clear hL c0 c1 c2 c4 c6 o3 wn3 o5 wn5
      try simp only [e0, e1, e2, e4, e6]
      clear e0 e1 e2 e4 e6
      have r0 := hlok3.cell (i := 0) rfl
      have r1 := hlok3.cell (i := 1) rfl
      have s0 := hlok5.cell (i := 0) rfl
      have s1 := hlok5.cell (i := 1) rfl
      go_wp2_with fail
      exact bodyPost_ret (v := .tuple #[.agg #[.int .i64 v0, .int .i64 v1], .int .i64 v2, .agg #[.int .i64 v3, .int .i64 v4], .int .i64 0]) (by simp [results, Try.results8, go_sem, r0, r1, s0, s1]) rfl ⟨rfl, HB.out.trans (hB.mono (by omega))⟩
end Go.Proofs.Ytllamakemgogaaa
