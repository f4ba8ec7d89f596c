/-
  Contracts of the reference of package frac: how two stand.
-/
import Derived.Test.YtfghjfgdjlkooaaGaI
namespace Go.Proofs.Ytfghjfgdjlkooaa
open Go.RowKit

set_option maxRecDepth 100000 in
set_option maxHeartbeats 4000000 in
theorem rcmp_right (an ad bn bd : Int) (w : World) (h : FR an ad) (k : FR bn bd) :
    Calls Try.prog 31 #[.agg #[.int .i64 an, .int .i64 ad], .agg #[.int .i64 bn, .int .i64 bd]] w fun e w' => e = .returned (.int .i64 (ordI (an * bd) (bn * ad))) ∧ Below w.heap.size w w' := by
  have I1 := Lib.hid (fun W => ris_f_yes an ad W h)
  have I2 := Lib.hid (fun W => ris_f_yes bn bd W k)
  obtain ⟨sp1, sa1, sb1⟩ := small_prod (a := an) (b := bd) ⟨h.2.2.1, h.2.2.2⟩ ⟨by have := k.1; omega, k.2.1⟩
  obtain ⟨sp2, sa2, sb2⟩ := small_prod (a := bn) (b := ad) ⟨k.2.2.1, k.2.2.2⟩ ⟨by have := h.1; omega, h.2.1⟩
  have O1 := Lib.hid (fun W => ofInt_any an W (by have := h.2.2.1; omega) (by have := h.2.2.2; omega))
  have O2 := Lib.hid (fun W => ofInt_any bd W (by have := k.1; omega) (by have := k.2.1; omega))
  have O3 := Lib.hid (fun W => ofInt_any bn W (by have := k.2.2.1; omega) (by have := k.2.2.2; omega))
  have O4 := Lib.hid (fun W => ofInt_any ad W (by have := h.1; omega) (by have := h.2.1; omega))
  have M1 := Lib.hid (fun (W : World) (va vb : Value) (p : NumV W va an) (q : NumV W vb bd) => times_num p q sa1 sb1)
  have M2 := Lib.hid (fun (W : World) (va vb : Value) (p : NumV W va bn) (q : NumV W vb ad) => times_num p q sa2 sb2)
  have L1 := Lib.hid (fun (W : World) (va vb : Value) (p : NumV W va (an * bd)) (q : NumV W vb (bn * ad)) => less_any p q sp1 sp2)
  have L2 := Lib.hid (fun (W : World) (va vb : Value) (p : NumV W va (bn * ad)) (q : NumV W vb (an * bd)) => less_any p q sp2 sp1)
  clear h k sp1 sa1 sb1 sp2 sa2 sb2
  generalize an * bd = X at *
  generalize bn * ad = Y at *
  have Z := Lib.hid (ordI_ways X Y)
  generalize ordI X Y = z at *
  go_enter Try.func31, Try.ntmps31
  go_upto_region 1 with fail
  have hbx := below_new1 w (.cells #[.int .i64 an, .int .i64 ad] 56)
  have zx : (w.alloc (.cells #[.int .i64 an, .int .i64 ad] 56)).heap.size = w.heap.size + 1 := by simp
  have HB := Lib.hid hbx
  have kx := Lib.hid (Lok.new w 56 #[.int .i64 an, .int .i64 ad])
  clear hbx
  generalize w.alloc (.cells #[.int .i64 an, .int .i64 ad] 56) = Vx at *
  have hby := below_new1 Vx (.cells #[.int .i64 bn, .int .i64 bd] 56)
  replace kx := Lib.hid (kx.out.keep hby)
  have zy : (Vx.alloc (.cells #[.int .i64 bn, .int .i64 bd] 56)).heap.size = Vx.heap.size + 1 := by simp
  replace HB := Lib.hid (HB.out.trans (hby.mono HB.out.size))
  have ky := Lib.hid (Lok.new Vx 56 #[.int .i64 bn, .int .i64 bd])
  clear hby
  generalize Vx.alloc (.cells #[.int .i64 bn, .int .i64 bd] 56) = Vy at *
  rw [zx] at ky
  clear zx zy
  have x0 := kx.out.cell (i := 0) rfl
  have x1 := kx.out.cell (i := 1) rfl
  go_wp2_with fail
  clear x0 x1
  (((with_reducible refine (I1.out _).mono ?_); rintro e w1 ⟨rfl, hb1⟩); replace HB := Lib.hid (HB.out.trans (hb1.mono HB.out.size)); replace kx := Lib.hid (kx.out.keep hb1); replace ky := Lib.hid (ky.out.keep hb1); clear hb1)
  have y0 := ky.out.cell (i := 0) rfl
  have y1 := ky.out.cell (i := 1) rfl
  go_wp2_with fail
  clear y0 y1
  (((with_reducible refine (I2.out _).mono ?_); rintro e w2 ⟨rfl, hb2⟩); replace HB := Lib.hid (HB.out.trans (hb2.mono HB.out.size)); replace kx := Lib.hid (kx.out.keep hb2); replace ky := Lib.hid (ky.out.keep hb2); clear hb2)
  have x0 := kx.out.cell (i := 0) rfl
  have y1 := ky.out.cell (i := 1) rfl
  go_upto_region 2 with fail
  refine wp_region_rel (by kernel_rfl) [5, 13, 14, 15, 16, 17, 18, 19] ?Fr2 ?hFr2
    (fun L u W => Below w2.heap.size w2 W ∧ (L 0 = true → u 13 = .pointer (some ⟨w.heap.size, 0, none⟩)) ∧ (L 1 = true → u 14 = .int .i64 an) ∧ (L 2 = true → L 6 = false → NumV W (u 15) an) ∧ (L 3 = true → u 16 = .pointer (some ⟨w.heap.size + 1, 1, none⟩)) ∧ (L 4 = true → u 17 = .int .i64 bd) ∧ (L 5 = true → L 6 = false → NumV W (u 18) bd) ∧ (L 6 = true → L 8 = false → NumV W (u 19) X) ∧ (L 7 = true → ∃ (g : Nat) (p7 : Bool) (q7 : Option Addr) (r7 s7 : Nat), u 5 = .pointer (some ⟨g, 0, none⟩) ∧ w2.heap.size ≤ g ∧ Lok W g 70 #[.bool p7, .slice q7 r7 s7] ∧ (L 8 = true → NumV W (.agg #[.bool p7, .slice q7 r7 s7]) (X))) ∧ (L 8 = true → L 7 = true)) (by kernel_rfl) (by kernel_rfl) 9 rfl ?h0r2 ?stepr2 ?finr2
  case hFr2 => intro u; simp only [putAll, Act.put, List.setIfInBounds_toArray, List.set]; exact rfl
  case h0r2 => intro L u hL; exact ⟨(Below.refl _ _).drew, (fun h => by simp [hL] at h), (fun h => by simp [hL] at h), (fun h => by simp [hL] at h), (fun h => by simp [hL] at h), (fun h => by simp [hL] at h), (fun h => by simp [hL] at h), (fun h => by simp [hL] at h), (fun h => by simp [hL] at h), (fun h => by simp [hL] at h)⟩
  case stepr2 =>
    refine ops_all (ops_cons ?s0r2 (ops_cons ?s1r2 (ops_cons ?s2r2 (ops_cons ?s3r2 (ops_cons ?s4r2 (ops_cons ?s5r2 (ops_cons ?s6r2 (ops_cons ?s7r2 (ops_cons ?s8r2 (ops_nil))))))))))
    case s0r2 =>
      rintro L u W ⟨hB, c0, c1, c2, c3, c4, c5, c6, c7, d8⟩ hf hd K hK
      dsimp only at hK
      clear hd
      go_simp
      refine hK _ _ ?_ (fun h => by cases h)
      intro s hs
      cases hs
      exact ⟨hB, (fun _ => rfl), c1, c2, c3, c4, c5, c6, c7, d8⟩
    case s1r2 =>
      rintro L u W ⟨hB, c0, c1, c2, c3, c4, c5, c6, c7, d8⟩ hf hd K hK
      dsimp only at hK
      have hd0 : L 0 = true := (by first | (refine hd ⟨0, .data⟩ ?_ rfl; simp; done) | (refine hd ⟨0, .guard⟩ ?_ rfl; simp; done) | (refine hd ⟨0, .phase⟩ ?_ rfl; simp; done) | (refine hd ⟨0, .chain⟩ ?_ rfl; simp; done))
      have e0 := c0 hd0
      rw [e0] at hK
      have t0 := keepc hB x0
      clear hd0
      clear hd
      go_simp
      refine hK _ _ ?_ (fun h => by cases h)
      intro s hs
      cases hs
      exact ⟨hB, c0, (fun _ => rfl), c2, c3, c4, c5, c6, c7, d8⟩
    case s2r2 =>
      rintro L u W ⟨hB, c0, c1, c2, c3, c4, c5, c6, c7, d8⟩ hf hd K hK
      dsimp only at hK
      have hd1 : L 1 = true := (by first | (refine hd ⟨1, .data⟩ ?_ rfl; simp; done) | (refine hd ⟨1, .guard⟩ ?_ rfl; simp; done) | (refine hd ⟨1, .phase⟩ ?_ rfl; simp; done) | (refine hd ⟨1, .chain⟩ ?_ rfl; simp; done))
      have e1 := c1 hd1
      rw [e1] at hK
      clear hd1
      clear hd
      go_simp
      go_wp2_with (go_at_call 42; ((with_reducible refine (O1.out _).mono ?_); rintro e w5 ⟨hb, v5, rfl, q⟩))
      refine hK _ _ ?_ (fun h => by cases h)
      intro s hs
      cases hs
      exact ⟨hB.trans (hb.mono hB.size), c0, c1, (fun _ _ => q), c3, c4, (fun h k => (c5 h k).keep hb), (fun h k => (c6 h k).keep hb), (fun h => by obtain ⟨g, p7, q7, r7, s7, k1, k2, k3, k4⟩ := c7 h; exact ⟨g, p7, q7, r7, s7, k1, k2, k3.keep hb, fun h => (k4 h).keep hb⟩), d8⟩
    case s3r2 =>
      rintro L u W ⟨hB, c0, c1, c2, c3, c4, c5, c6, c7, d8⟩ hf hd K hK
      dsimp only at hK
      clear hd
      go_simp
      refine hK _ _ ?_ (fun h => by cases h)
      intro s hs
      cases hs
      exact ⟨hB, c0, c1, c2, (fun _ => rfl), c4, c5, c6, c7, d8⟩
    case s4r2 =>
      rintro L u W ⟨hB, c0, c1, c2, c3, c4, c5, c6, c7, d8⟩ hf hd K hK
      dsimp only at hK
      have hd3 : L 3 = true := (by first | (refine hd ⟨3, .data⟩ ?_ rfl; simp; done) | (refine hd ⟨3, .guard⟩ ?_ rfl; simp; done) | (refine hd ⟨3, .phase⟩ ?_ rfl; simp; done) | (refine hd ⟨3, .chain⟩ ?_ rfl; simp; done))
      have e3 := c3 hd3
      rw [e3] at hK
      have t0 := keepc hB y1
      clear hd3
      clear hd
      go_simp
      refine hK _ _ ?_ (fun h => by cases h)
      intro s hs
      cases hs
      exact ⟨hB, c0, c1, c2, c3, (fun _ => rfl), c5, c6, c7, d8⟩
    case s5r2 =>
      rintro L u W ⟨hB, c0, c1, c2, c3, c4, c5, c6, c7, d8⟩ hf hd K hK
      dsimp only at hK
      have hd4 : L 4 = true := (by first | (refine hd ⟨4, .data⟩ ?_ rfl; simp; done) | (refine hd ⟨4, .guard⟩ ?_ rfl; simp; done) | (refine hd ⟨4, .phase⟩ ?_ rfl; simp; done) | (refine hd ⟨4, .chain⟩ ?_ rfl; simp; done))
      have e4 := c4 hd4
      rw [e4] at hK
      clear hd4
      clear hd
      go_simp
      go_wp2_with (go_at_call 42; ((with_reducible refine (O2.out _).mono ?_); rintro e w5 ⟨hb, v5, rfl, q⟩))
      refine hK _ _ ?_ (fun h => by cases h)
      intro s hs
      cases hs
      exact ⟨hB.trans (hb.mono hB.size), c0, c1, (fun h k => (c2 h k).keep hb), c3, c4, (fun _ _ => q), (fun h k => (c6 h k).keep hb), (fun h => by obtain ⟨g, p7, q7, r7, s7, k1, k2, k3, k4⟩ := c7 h; exact ⟨g, p7, q7, r7, s7, k1, k2, k3.keep hb, fun h => (k4 h).keep hb⟩), d8⟩
    case s6r2 =>
      rintro L u W ⟨hB, c0, c1, c2, c3, c4, c5, c6, c7, d8⟩ hf hd K hK
      dsimp only at hK
      have hd2 : L 2 = true := (by first | (refine hd ⟨2, .data⟩ ?_ rfl; simp; done) | (refine hd ⟨2, .guard⟩ ?_ rfl; simp; done) | (refine hd ⟨2, .phase⟩ ?_ rfl; simp; done) | (refine hd ⟨2, .chain⟩ ?_ rfl; simp; done))
      have hd5 : L 5 = true := (by first | (refine hd ⟨5, .data⟩ ?_ rfl; simp; done) | (refine hd ⟨5, .guard⟩ ?_ rfl; simp; done) | (refine hd ⟨5, .phase⟩ ?_ rfl; simp; done) | (refine hd ⟨5, .chain⟩ ?_ rfl; simp; done))
      have e2 := c2 hd2 (by first | exact hf | assumption)
      have e5 := c5 hd5 (by first | exact hf | assumption)
      clear hd2
      clear hd5
      clear hd
      go_simp
      go_wp2_with (go_at_call 41; ((with_reducible refine (M1.out _ _ _ e2 e5).mono ?_); rintro e w5 ⟨hb, v5, rfl, q⟩))
      refine hK _ _ ?_ (fun h => by cases h)
      intro s hs
      cases hs
      exact ⟨hB.trans (hb.mono hB.size), c0, c1, (fun _ h => by cases h), c3, c4, (fun _ h => by cases h), (fun _ _ => q), (fun h => by obtain ⟨g, p7, q7, r7, s7, k1, k2, k3, k4⟩ := c7 h; exact ⟨g, p7, q7, r7, s7, k1, k2, k3.keep hb, fun h => (k4 h).keep hb⟩), d8⟩
    case s7r2 =>
      rintro L u W ⟨hB, c0, c1, c2, c3, c4, c5, c6, c7, d8⟩ hf hd K hK
      dsimp only at hK
      go_simp
      have hb : Below W.heap.size W (W.alloc (.cells #[.bool false, .slice none 0 0] 70)) := (Below.refl _ W).alloc (Nat.le_refl _) _
      refine hK _ _ ?_ (fun h => by cases h)
      intro s hs
      cases hs
      exact ⟨hB.trans (hb.mono hB.size), c0, c1, (fun h k => (c2 h k).keep hb), c3, c4, (fun h k => (c5 h k).keep hb), (fun h k => (c6 h k).keep hb), (fun _ => ⟨_, _, _, _, _, rfl, hB.size, Lok.new _ _ _, fun h => absurd (d8 h) (by rw [hf]; decide)⟩), (fun _ => rfl)⟩
    case s8r2 =>
      rintro L u W ⟨hB, c0, c1, c2, c3, c4, c5, c6, c7, d8⟩ hf hd K hK
      dsimp only at hK
      have hd7 : L 7 = true := (by first | (refine hd ⟨7, .data⟩ ?_ rfl; simp; done) | (refine hd ⟨7, .guard⟩ ?_ rfl; simp; done) | (refine hd ⟨7, .phase⟩ ?_ rfl; simp; done) | (refine hd ⟨7, .chain⟩ ?_ rfl; simp; done))
      have hd6 : L 6 = true := (by first | (refine hd ⟨6, .data⟩ ?_ rfl; simp; done) | (refine hd ⟨6, .guard⟩ ?_ rfl; simp; done) | (refine hd ⟨6, .phase⟩ ?_ rfl; simp; done) | (refine hd ⟨6, .chain⟩ ?_ rfl; simp; done))
      have hdx6 : L 6 = true := (by first | (refine hd ⟨6, .data⟩ ?_ rfl; simp; done) | (refine hd ⟨6, .guard⟩ ?_ rfl; simp; done) | (refine hd ⟨6, .phase⟩ ?_ rfl; simp; done) | (refine hd ⟨6, .chain⟩ ?_ rfl; simp; done))
      obtain ⟨g, p7, q7, r7, s7, e7, k2, k3, k4⟩ := c7 hd7
      rw [e7] at hK
      have z := c6 hd6 hf
      obtain ⟨zs, za, zn, zc, e9⟩ := num_open z
      rw [e9] at hK z
      have t0 := k3.cell (i := 0) rfl
      have f0 := k3.frozen 0
      have t1 := k3.cell (i := 1) rfl
      have f1 := k3.frozen 1
      clear hd
      have hd7' := Lib.hid hd7
      clear hd7
      have hd6' := Lib.hid hd6
      clear hd6
      have hdx6' := Lib.hid hdx6
      clear hdx6
      go_simp
      have hd7 := hd7'.out
      have hd6 := hd6'.out
      have hdx6 := hdx6'.out
      have hlok := (k3.set (i := 0) (v := .bool zs)).set (i := 1) (v := .slice za zn zc)
      have z1 := (z.setN (noIntN k3) 0 (.bool zs)).setN (noIntN0 k3 zs) 1 (.slice za zn zc)
      refine hK undef _ (fun s h => by cases h) (fun _ => ?_)
      exact ⟨(hB.setCell k2 _).setCell k2 _, c0, c1, (fun _ h => absurd hdx6 (by rw [show L 6 = false from h]; decide)), c3, c4, (fun _ h => absurd hdx6 (by rw [show L 6 = false from h]; decide)), (fun _ h => by cases h), (fun _ => ⟨g, _, _, _, _, rfl, k2, hlok, fun _ => z1⟩), (fun _ => hd7)⟩
  case finr2 =>
    rintro L u W hL ⟨hB, c0, c1, c2, c3, c4, c5, c6, c7, d8⟩
    have e0 := c0 (hL 0 (by decide))
    have e1 := c1 (hL 1 (by decide))
    have e3 := c3 (hL 3 (by decide))
    have e4 := c4 (hL 4 (by decide))
    obtain ⟨g7, p7, q7, r7, s7, e7, hg7, hlok7, hst7⟩ := c7 (hL 7 (by decide))
    have kn7 := hst7 (hL 8 (by decide))
    clear hst7
    clear hL c0 c1 c2 c3 c4 c5 c6 c7 d8
    try simp only [e0, e1, e3, e4, e7]
    clear e0 e1 e3 e4 e7
    replace HB := Lib.hid (HB.out.trans (hB.mono HB.out.size))
    replace kx := Lib.hid (kx.out.keep hB)
    replace ky := Lib.hid (ky.out.keep hB)
    have KN := Lib.hid kn7
    have KL := Lib.hid hlok7
    clear hB kn7 hlok7 x0 y1 hg7 I1 I2 O1 O2 M1
    have y0 := ky.out.cell (i := 0) rfl
    have x1 := kx.out.cell (i := 1) rfl
    generalize W = w3 at *
    clear W
    go_upto_region 3 with fail
    refine wp_region_rel (by kernel_rfl) [6, 20, 21, 22, 23, 24, 25, 26] ?Fr1 ?hFr1
      (fun L u W => Below w3.heap.size w3 W ∧ (L 0 = true → u 20 = .pointer (some ⟨w.heap.size + 1, 0, none⟩)) ∧ (L 1 = true → u 21 = .int .i64 bn) ∧ (L 2 = true → L 6 = false → NumV W (u 22) bn) ∧ (L 3 = true → u 23 = .pointer (some ⟨w.heap.size, 1, none⟩)) ∧ (L 4 = true → u 24 = .int .i64 ad) ∧ (L 5 = true → L 6 = false → NumV W (u 25) ad) ∧ (L 6 = true → L 8 = false → NumV W (u 26) Y) ∧ (L 7 = true → ∃ (g : Nat) (p7 : Bool) (q7 : Option Addr) (r7 s7 : Nat), u 6 = .pointer (some ⟨g, 0, none⟩) ∧ w3.heap.size ≤ g ∧ Lok W g 70 #[.bool p7, .slice q7 r7 s7] ∧ (L 8 = true → NumV W (.agg #[.bool p7, .slice q7 r7 s7]) (Y))) ∧ (L 8 = true → L 7 = true)) (by kernel_rfl) (by kernel_rfl) 9 rfl ?h0r1 ?stepr1 ?finr1
    case hFr1 => intro u; simp only [putAll, Act.put, List.setIfInBounds_toArray, List.set]; exact rfl
    case h0r1 => intro L u hL; exact ⟨(Below.refl _ _).drew, (fun h => by simp [hL] at h), (fun h => by simp [hL] at h), (fun h => by simp [hL] at h), (fun h => by simp [hL] at h), (fun h => by simp [hL] at h), (fun h => by simp [hL] at h), (fun h => by simp [hL] at h), (fun h => by simp [hL] at h), (fun h => by simp [hL] at h)⟩
    case stepr1 =>
      refine ops_all (ops_cons ?s0r1 (ops_cons ?s1r1 (ops_cons ?s2r1 (ops_cons ?s3r1 (ops_cons ?s4r1 (ops_cons ?s5r1 (ops_cons ?s6r1 (ops_cons ?s7r1 (ops_cons ?s8r1 (ops_nil))))))))))
      case s0r1 =>
        rintro L u W ⟨hB, c0, c1, c2, c3, c4, c5, c6, c7, d8⟩ hf hd K hK
        dsimp only at hK
        clear hd
        go_simp
        refine hK _ _ ?_ (fun h => by cases h)
        intro s hs
        cases hs
        exact ⟨hB, (fun _ => rfl), c1, c2, c3, c4, c5, c6, c7, d8⟩
      case s1r1 =>
        rintro L u W ⟨hB, c0, c1, c2, c3, c4, c5, c6, c7, d8⟩ hf hd K hK
        dsimp only at hK
        have hd0 : L 0 = true := (by first | (refine hd ⟨0, .data⟩ ?_ rfl; simp; done) | (refine hd ⟨0, .guard⟩ ?_ rfl; simp; done) | (refine hd ⟨0, .phase⟩ ?_ rfl; simp; done) | (refine hd ⟨0, .chain⟩ ?_ rfl; simp; done))
        have e0 := c0 hd0
        rw [e0] at hK
        have t0 := keepc hB y0
        clear hd0
        clear hd
        go_simp
        refine hK _ _ ?_ (fun h => by cases h)
        intro s hs
        cases hs
        exact ⟨hB, c0, (fun _ => rfl), c2, c3, c4, c5, c6, c7, d8⟩
      case s2r1 =>
        rintro L u W ⟨hB, c0, c1, c2, c3, c4, c5, c6, c7, d8⟩ hf hd K hK
        dsimp only at hK
        have hd1 : L 1 = true := (by first | (refine hd ⟨1, .data⟩ ?_ rfl; simp; done) | (refine hd ⟨1, .guard⟩ ?_ rfl; simp; done) | (refine hd ⟨1, .phase⟩ ?_ rfl; simp; done) | (refine hd ⟨1, .chain⟩ ?_ rfl; simp; done))
        have e1 := c1 hd1
        rw [e1] at hK
        clear hd1
        clear hd
        go_simp
        go_wp2_with (go_at_call 42; ((with_reducible refine (O3.out _).mono ?_); rintro e w5 ⟨hb, v5, rfl, q⟩))
        refine hK _ _ ?_ (fun h => by cases h)
        intro s hs
        cases hs
        exact ⟨hB.trans (hb.mono hB.size), c0, c1, (fun _ _ => q), c3, c4, (fun h k => (c5 h k).keep hb), (fun h k => (c6 h k).keep hb), (fun h => by obtain ⟨g, p7, q7, r7, s7, k1, k2, k3, k4⟩ := c7 h; exact ⟨g, p7, q7, r7, s7, k1, k2, k3.keep hb, fun h => (k4 h).keep hb⟩), d8⟩
      case s3r1 =>
        rintro L u W ⟨hB, c0, c1, c2, c3, c4, c5, c6, c7, d8⟩ hf hd K hK
        dsimp only at hK
        clear hd
        go_simp
        refine hK _ _ ?_ (fun h => by cases h)
        intro s hs
        cases hs
        exact ⟨hB, c0, c1, c2, (fun _ => rfl), c4, c5, c6, c7, d8⟩
      case s4r1 =>
        rintro L u W ⟨hB, c0, c1, c2, c3, c4, c5, c6, c7, d8⟩ hf hd K hK
        dsimp only at hK
        have hd3 : L 3 = true := (by first | (refine hd ⟨3, .data⟩ ?_ rfl; simp; done) | (refine hd ⟨3, .guard⟩ ?_ rfl; simp; done) | (refine hd ⟨3, .phase⟩ ?_ rfl; simp; done) | (refine hd ⟨3, .chain⟩ ?_ rfl; simp; done))
        have e3 := c3 hd3
        rw [e3] at hK
        have t0 := keepc hB x1
        clear hd3
        clear hd
        go_simp
        refine hK _ _ ?_ (fun h => by cases h)
        intro s hs
        cases hs
        exact ⟨hB, c0, c1, c2, c3, (fun _ => rfl), c5, c6, c7, d8⟩
      case s5r1 =>
        rintro L u W ⟨hB, c0, c1, c2, c3, c4, c5, c6, c7, d8⟩ hf hd K hK
        dsimp only at hK
        have hd4 : L 4 = true := (by first | (refine hd ⟨4, .data⟩ ?_ rfl; simp; done) | (refine hd ⟨4, .guard⟩ ?_ rfl; simp; done) | (refine hd ⟨4, .phase⟩ ?_ rfl; simp; done) | (refine hd ⟨4, .chain⟩ ?_ rfl; simp; done))
        have e4 := c4 hd4
        rw [e4] at hK
        clear hd4
        clear hd
        go_simp
        go_wp2_with (go_at_call 42; ((with_reducible refine (O4.out _).mono ?_); rintro e w5 ⟨hb, v5, rfl, q⟩))
        refine hK _ _ ?_ (fun h => by cases h)
        intro s hs
        cases hs
        exact ⟨hB.trans (hb.mono hB.size), c0, c1, (fun h k => (c2 h k).keep hb), c3, c4, (fun _ _ => q), (fun h k => (c6 h k).keep hb), (fun h => by obtain ⟨g, p7, q7, r7, s7, k1, k2, k3, k4⟩ := c7 h; exact ⟨g, p7, q7, r7, s7, k1, k2, k3.keep hb, fun h => (k4 h).keep hb⟩), d8⟩
      case s6r1 =>
        rintro L u W ⟨hB, c0, c1, c2, c3, c4, c5, c6, c7, d8⟩ hf hd K hK
        dsimp only at hK
        have hd2 : L 2 = true := (by first | (refine hd ⟨2, .data⟩ ?_ rfl; simp; done) | (refine hd ⟨2, .guard⟩ ?_ rfl; simp; done) | (refine hd ⟨2, .phase⟩ ?_ rfl; simp; done) | (refine hd ⟨2, .chain⟩ ?_ rfl; simp; done))
        have hd5 : L 5 = true := (by first | (refine hd ⟨5, .data⟩ ?_ rfl; simp; done) | (refine hd ⟨5, .guard⟩ ?_ rfl; simp; done) | (refine hd ⟨5, .phase⟩ ?_ rfl; simp; done) | (refine hd ⟨5, .chain⟩ ?_ rfl; simp; done))
        have e2 := c2 hd2 (by first | exact hf | assumption)
        have e5 := c5 hd5 (by first | exact hf | assumption)
        clear hd2
        clear hd5
        clear hd
        go_simp
        go_wp2_with (go_at_call 41; ((with_reducible refine (M2.out _ _ _ e2 e5).mono ?_); rintro e w5 ⟨hb, v5, rfl, q⟩))
        refine hK _ _ ?_ (fun h => by cases h)
        intro s hs
        cases hs
        exact ⟨hB.trans (hb.mono hB.size), c0, c1, (fun _ h => by cases h), c3, c4, (fun _ h => by cases h), (fun _ _ => q), (fun h => by obtain ⟨g, p7, q7, r7, s7, k1, k2, k3, k4⟩ := c7 h; exact ⟨g, p7, q7, r7, s7, k1, k2, k3.keep hb, fun h => (k4 h).keep hb⟩), d8⟩
      case s7r1 =>
        rintro L u W ⟨hB, c0, c1, c2, c3, c4, c5, c6, c7, d8⟩ hf hd K hK
        dsimp only at hK
        go_simp
        have hb : Below W.heap.size W (W.alloc (.cells #[.bool false, .slice none 0 0] 70)) := (Below.refl _ W).alloc (Nat.le_refl _) _
        refine hK _ _ ?_ (fun h => by cases h)
        intro s hs
        cases hs
        exact ⟨hB.trans (hb.mono hB.size), c0, c1, (fun h k => (c2 h k).keep hb), c3, c4, (fun h k => (c5 h k).keep hb), (fun h k => (c6 h k).keep hb), (fun _ => ⟨_, _, _, _, _, rfl, hB.size, Lok.new _ _ _, fun h => absurd (d8 h) (by rw [hf]; decide)⟩), (fun _ => rfl)⟩
      case s8r1 =>
        rintro L u W ⟨hB, c0, c1, c2, c3, c4, c5, c6, c7, d8⟩ hf hd K hK
        dsimp only at hK
        have hd7 : L 7 = true := (by first | (refine hd ⟨7, .data⟩ ?_ rfl; simp; done) | (refine hd ⟨7, .guard⟩ ?_ rfl; simp; done) | (refine hd ⟨7, .phase⟩ ?_ rfl; simp; done) | (refine hd ⟨7, .chain⟩ ?_ rfl; simp; done))
        have hd6 : L 6 = true := (by first | (refine hd ⟨6, .data⟩ ?_ rfl; simp; done) | (refine hd ⟨6, .guard⟩ ?_ rfl; simp; done) | (refine hd ⟨6, .phase⟩ ?_ rfl; simp; done) | (refine hd ⟨6, .chain⟩ ?_ rfl; simp; done))
        have hdx6 : L 6 = true := (by first | (refine hd ⟨6, .data⟩ ?_ rfl; simp; done) | (refine hd ⟨6, .guard⟩ ?_ rfl; simp; done) | (refine hd ⟨6, .phase⟩ ?_ rfl; simp; done) | (refine hd ⟨6, .chain⟩ ?_ rfl; simp; done))
        obtain ⟨g, p7, q7, r7, s7, e7, k2, k3, k4⟩ := c7 hd7
        rw [e7] at hK
        have z := c6 hd6 hf
        obtain ⟨zs, za, zn, zc, e9⟩ := num_open z
        rw [e9] at hK z
        have t0 := k3.cell (i := 0) rfl
        have f0 := k3.frozen 0
        have t1 := k3.cell (i := 1) rfl
        have f1 := k3.frozen 1
        clear hd
        have hd7' := Lib.hid hd7
        clear hd7
        have hd6' := Lib.hid hd6
        clear hd6
        have hdx6' := Lib.hid hdx6
        clear hdx6
        go_simp
        have hd7 := hd7'.out
        have hd6 := hd6'.out
        have hdx6 := hdx6'.out
        have hlok := (k3.set (i := 0) (v := .bool zs)).set (i := 1) (v := .slice za zn zc)
        have z1 := (z.setN (noIntN k3) 0 (.bool zs)).setN (noIntN0 k3 zs) 1 (.slice za zn zc)
        refine hK undef _ (fun s h => by cases h) (fun _ => ?_)
        exact ⟨(hB.setCell k2 _).setCell k2 _, c0, c1, (fun _ h => absurd hdx6 (by rw [show L 6 = false from h]; decide)), c3, c4, (fun _ h => absurd hdx6 (by rw [show L 6 = false from h]; decide)), (fun _ h => by cases h), (fun _ => ⟨g, _, _, _, _, rfl, k2, hlok, fun _ => z1⟩), (fun _ => hd7)⟩
    case finr1 =>
      rintro L u W hL ⟨hB, c0, c1, c2, c3, c4, c5, c6, c7, d8⟩
      have e0 := c0 (hL 0 (by decide))
      have e1 := c1 (hL 1 (by decide))
      have e3 := c3 (hL 3 (by decide))
      have e4 := c4 (hL 4 (by decide))
      obtain ⟨g7, p7, q7, r7, s7, e7, hg7, hlok7, hst7⟩ := c7 (hL 7 (by decide))
      have kn7 := hst7 (hL 8 (by decide))
      clear hst7
      clear hL c0 c1 c2 c3 c4 c5 c6 c7 d8
      try simp only [e0, e1, e3, e4, e7]
      clear e0 e1 e3 e4 e7
      replace HB := Lib.hid (HB.out.trans (hB.mono HB.out.size))
      replace KN := Lib.hid (KN.out.keep hB)
      replace KL := Lib.hid (KL.out.keep hB)
      have JN := Lib.hid kn7
      have JL := Lib.hid hlok7
      clear hB kn7 hlok7 y0 x1 hg7 kx ky O3 O4 M2
      have c0 := KL.out.cell (i := 0) rfl
      have c1 := KL.out.cell (i := 1) rfl
      have d0 := JL.out.cell (i := 0) rfl
      have d1 := JL.out.cell (i := 1) rfl
      go_wp2_with fail
      clear c0 c1 d0 d1
      (((with_reducible refine (L1.out _ _ _ KN.out JN.out).mono ?_); rintro e w4 ⟨rfl, hb4⟩); replace HB := Lib.hid (HB.out.trans (hb4.mono HB.out.size)); replace KN := Lib.hid (KN.out.keep hb4); replace KL := Lib.hid (KL.out.keep hb4); replace JN := Lib.hid (JN.out.keep hb4); replace JL := Lib.hid (JL.out.keep hb4); clear hb4)
      have c0 := KL.out.cell (i := 0) rfl
      have c1 := KL.out.cell (i := 1) rfl
      have d0 := JL.out.cell (i := 0) rfl
      have d1 := JL.out.cell (i := 1) rfl
      rcases Z.out with ⟨h, rfl⟩ | ⟨h, rfl⟩ | ⟨h, rfl⟩
      · have k1 : decide (X < Y) = true := decide_eq_true h
        clear L1 L2 Z KN JN h c0 c1 d0 d1
        go_wp2
        go_ret
        exact ⟨rfl, HB.out⟩
      · have k1 : decide (X < Y) = false := decide_eq_false (by omega)
        have k2 : decide (Y < X) = false := decide_eq_false (by omega)
        go_wp2_with fail
        (((with_reducible refine (L2.out _ _ _ JN.out KN.out).mono ?_); rintro e w5 ⟨rfl, hb5⟩); replace HB := Lib.hid (HB.out.trans (hb5.mono HB.out.size)); clear hb5)
        clear L1 L2 Z KN JN h c0 c1 d0 d1
        go_wp2
        go_ret
        exact ⟨rfl, HB.out⟩
      · have k1 : decide (X < Y) = false := decide_eq_false (by omega)
        have k2 : decide (Y < X) = true := decide_eq_true h
        go_wp2_with fail
        (((with_reducible refine (L2.out _ _ _ JN.out KN.out).mono ?_); rintro e w5 ⟨rfl, hb5⟩); replace HB := Lib.hid (HB.out.trans (hb5.mono HB.out.size)); clear hb5)
        clear L1 L2 Z KN JN h c0 c1 d0 d1
        go_wp2
        go_ret
        exact ⟨rfl, HB.out⟩

set_option maxRecDepth 100000 in
set_option maxHeartbeats 2000000 in
theorem rcmp_yn (an ad bn bd : Int) (w : World)
    (I1 : Hid (∀ W, Calls Try.prog 40 #[.agg #[.int .i64 an, .int .i64 ad]] W fun r w' => r = .returned (.bool true) ∧ Below W.heap.size W w'))
    (I2 : Hid (∀ W, Calls Try.prog 40 #[.agg #[.int .i64 bn, .int .i64 bd]] W fun r w' => r = .returned (.bool false) ∧ Below W.heap.size W w')) :
    Calls Try.prog 31 #[.agg #[.int .i64 an, .int .i64 ad], .agg #[.int .i64 bn, .int .i64 bd]] w fun e w' => e = .returned (.int .i64 1) ∧ Below w.heap.size w w' := by
  go_enter Try.func31, Try.ntmps31
  go_upto_region 1 with fail
  have hbx := below_new1 w (.cells #[.int .i64 an, .int .i64 ad] 56)
  have zx : (w.alloc (.cells #[.int .i64 an, .int .i64 ad] 56)).heap.size = w.heap.size + 1 := by simp
  have HB := Lib.hid hbx
  have kx := Lib.hid (Lok.new w 56 #[.int .i64 an, .int .i64 ad])
  clear hbx
  generalize w.alloc (.cells #[.int .i64 an, .int .i64 ad] 56) = Vx at *
  have hby := below_new1 Vx (.cells #[.int .i64 bn, .int .i64 bd] 56)
  replace kx := Lib.hid (kx.out.keep hby)
  have zy : (Vx.alloc (.cells #[.int .i64 bn, .int .i64 bd] 56)).heap.size = Vx.heap.size + 1 := by simp
  replace HB := Lib.hid (HB.out.trans (hby.mono HB.out.size))
  have ky := Lib.hid (Lok.new Vx 56 #[.int .i64 bn, .int .i64 bd])
  clear hby
  generalize Vx.alloc (.cells #[.int .i64 bn, .int .i64 bd] 56) = Vy at *
  rw [zx] at ky
  clear zx zy
  have x0 := kx.out.cell (i := 0) rfl
  have x1 := kx.out.cell (i := 1) rfl
  go_wp2_with fail
  clear x0 x1
  (((with_reducible refine (I1.out _).mono ?_); rintro e w1 ⟨rfl, hb1⟩); replace HB := Lib.hid (HB.out.trans (hb1.mono HB.out.size)); replace kx := Lib.hid (kx.out.keep hb1); replace ky := Lib.hid (ky.out.keep hb1); clear hb1)
  have y0 := ky.out.cell (i := 0) rfl
  have y1 := ky.out.cell (i := 1) rfl
  go_wp2_with fail
  clear y0 y1
  (((with_reducible refine (I2.out _).mono ?_); rintro e w2 ⟨rfl, hb2⟩); replace HB := Lib.hid (HB.out.trans (hb2.mono HB.out.size)); replace kx := Lib.hid (kx.out.keep hb2); replace ky := Lib.hid (ky.out.keep hb2); clear hb2)
  go_upto_region 9 with fail
  have ST := Lib.hid (past_stays w2)
  have ne : Nonempty (Of (PastF w2)) := ⟨⟨w2, Below.refl _ _⟩⟩
  have a0 : ∀ d : Of (PastF w2), d.world.cell? ⟨w.heap.size, 0, none⟩ = some (.int .i64 an) := fun d => keepc d.holds (kx.out.cell (i := 0) rfl)
  have a1 : ∀ d : Of (PastF w2), d.world.cell? ⟨w.heap.size, 1, none⟩ = some (.int .i64 ad) := fun d => keepc d.holds (kx.out.cell (i := 1) rfl)
  have a2 : ∀ d : Of (PastF w2), d.world.cell? ⟨w.heap.size + 1, 0, none⟩ = some (.int .i64 bn) := fun d => keepc d.holds (ky.out.cell (i := 0) rfl)
  have a3 : ∀ d : Of (PastF w2), d.world.cell? ⟨w.heap.size + 1, 1, none⟩ = some (.int .i64 bd) := fun d => keepc d.holds (ky.out.cell (i := 1) rfl)
  refine wp_region_class (S := PastF w2) (by kernel_rfl) (by kernel_rfl) (Below.refl _ _).drew ?_
  repeat (go_big_quiet_step (first | (go_at_call 40; first | (with_reducible exact class_call ST.out _ (I1.out _)) | (with_reducible exact class_call ST.out _ (I2.out _)))))
  refine wpQuiet_nil ?_
  rintro _ ⟨d, rfl⟩
  have hBd := (show Below w2.heap.size w2 d.world from d.holds)
  replace HB := Lib.hid (HB.out.trans (hBd.mono HB.out.size))
  replace kx := Lib.hid (kx.out.keep hBd)
  replace ky := Lib.hid (ky.out.keep hBd)
  clear a0 a1 a2 a3 ne ST hBd
  generalize d.world = wd at *
  clear d
  have y0 := ky.out.cell (i := 0) rfl
  have y1 := ky.out.cell (i := 1) rfl
  go_wp2_with fail
  clear y0 y1
  (((with_reducible refine (I2.out _).mono ?_); rintro e w3 ⟨rfl, hb3⟩); replace HB := Lib.hid (HB.out.trans (hb3.mono HB.out.size)); clear hb3)
  go_wp2
  go_ret
  exact ⟨rfl, HB.out⟩

set_option maxRecDepth 100000 in
set_option maxHeartbeats 2000000 in
theorem rcmp_ny (an ad bn bd : Int) (w : World)
    (I1 : Hid (∀ W, Calls Try.prog 40 #[.agg #[.int .i64 an, .int .i64 ad]] W fun r w' => r = .returned (.bool false) ∧ Below W.heap.size W w'))
    (I2 : Hid (∀ W, Calls Try.prog 40 #[.agg #[.int .i64 bn, .int .i64 bd]] W fun r w' => r = .returned (.bool true) ∧ Below W.heap.size W w')) :
    Calls Try.prog 31 #[.agg #[.int .i64 an, .int .i64 ad], .agg #[.int .i64 bn, .int .i64 bd]] w fun e w' => e = .returned (.int .i64 (-1)) ∧ Below w.heap.size w w' := by
  go_enter Try.func31, Try.ntmps31
  go_upto_region 1 with fail
  have hbx := below_new1 w (.cells #[.int .i64 an, .int .i64 ad] 56)
  have zx : (w.alloc (.cells #[.int .i64 an, .int .i64 ad] 56)).heap.size = w.heap.size + 1 := by simp
  have HB := Lib.hid hbx
  have kx := Lib.hid (Lok.new w 56 #[.int .i64 an, .int .i64 ad])
  clear hbx
  generalize w.alloc (.cells #[.int .i64 an, .int .i64 ad] 56) = Vx at *
  have hby := below_new1 Vx (.cells #[.int .i64 bn, .int .i64 bd] 56)
  replace kx := Lib.hid (kx.out.keep hby)
  have zy : (Vx.alloc (.cells #[.int .i64 bn, .int .i64 bd] 56)).heap.size = Vx.heap.size + 1 := by simp
  replace HB := Lib.hid (HB.out.trans (hby.mono HB.out.size))
  have ky := Lib.hid (Lok.new Vx 56 #[.int .i64 bn, .int .i64 bd])
  clear hby
  generalize Vx.alloc (.cells #[.int .i64 bn, .int .i64 bd] 56) = Vy at *
  rw [zx] at ky
  clear zx zy
  have x0 := kx.out.cell (i := 0) rfl
  have x1 := kx.out.cell (i := 1) rfl
  go_wp2_with fail
  clear x0 x1
  (((with_reducible refine (I1.out _).mono ?_); rintro e w1 ⟨rfl, hb1⟩); replace HB := Lib.hid (HB.out.trans (hb1.mono HB.out.size)); replace kx := Lib.hid (kx.out.keep hb1); replace ky := Lib.hid (ky.out.keep hb1); clear hb1)
  go_upto_region 9 with fail
  have ST := Lib.hid (past_stays w1)
  have ne : Nonempty (Of (PastF w1)) := ⟨⟨w1, Below.refl _ _⟩⟩
  have a0 : ∀ d : Of (PastF w1), d.world.cell? ⟨w.heap.size, 0, none⟩ = some (.int .i64 an) := fun d => keepc d.holds (kx.out.cell (i := 0) rfl)
  have a1 : ∀ d : Of (PastF w1), d.world.cell? ⟨w.heap.size, 1, none⟩ = some (.int .i64 ad) := fun d => keepc d.holds (kx.out.cell (i := 1) rfl)
  have a2 : ∀ d : Of (PastF w1), d.world.cell? ⟨w.heap.size + 1, 0, none⟩ = some (.int .i64 bn) := fun d => keepc d.holds (ky.out.cell (i := 0) rfl)
  have a3 : ∀ d : Of (PastF w1), d.world.cell? ⟨w.heap.size + 1, 1, none⟩ = some (.int .i64 bd) := fun d => keepc d.holds (ky.out.cell (i := 1) rfl)
  refine wp_region_class (S := PastF w1) (by kernel_rfl) (by kernel_rfl) (Below.refl _ _).drew ?_
  repeat (go_big_quiet_step (first | (go_at_call 40; first | (with_reducible exact class_call ST.out _ (I1.out _)) | (with_reducible exact class_call ST.out _ (I2.out _)))))
  refine wpQuiet_nil ?_
  rintro _ ⟨d, rfl⟩
  have hBd := (show Below w1.heap.size w1 d.world from d.holds)
  replace HB := Lib.hid (HB.out.trans (hBd.mono HB.out.size))
  replace kx := Lib.hid (kx.out.keep hBd)
  replace ky := Lib.hid (ky.out.keep hBd)
  clear a0 a1 a2 a3 ne ST hBd
  generalize d.world = wd at *
  clear d
  have y0 := ky.out.cell (i := 0) rfl
  have y1 := ky.out.cell (i := 1) rfl
  go_wp2_with fail
  clear y0 y1
  (((with_reducible refine (I2.out _).mono ?_); rintro e w3 ⟨rfl, hb3⟩); replace HB := Lib.hid (HB.out.trans (hb3.mono HB.out.size)); clear hb3)
  go_wp2
  go_ret
  exact ⟨rfl, HB.out⟩

set_option maxRecDepth 100000 in
set_option maxHeartbeats 2000000 in
theorem rcmp_nn1 (an ad bn bd : Int) (w : World) (h : (an != bn) = true)
    (I1 : Hid (∀ W, Calls Try.prog 40 #[.agg #[.int .i64 an, .int .i64 ad]] W fun r w' => r = .returned (.bool false) ∧ Below W.heap.size W w'))
    (I2 : Hid (∀ W, Calls Try.prog 40 #[.agg #[.int .i64 bn, .int .i64 bd]] W fun r w' => r = .returned (.bool false) ∧ Below W.heap.size W w')) :
    Calls Try.prog 31 #[.agg #[.int .i64 an, .int .i64 ad], .agg #[.int .i64 bn, .int .i64 bd]] w fun e w' => e = .returned (.int .i64 (ordI an bn)) ∧ Below w.heap.size w w' := by
  go_enter Try.func31, Try.ntmps31
  go_upto_region 1 with fail
  have hbx := below_new1 w (.cells #[.int .i64 an, .int .i64 ad] 56)
  have zx : (w.alloc (.cells #[.int .i64 an, .int .i64 ad] 56)).heap.size = w.heap.size + 1 := by simp
  have HB := Lib.hid hbx
  have kx := Lib.hid (Lok.new w 56 #[.int .i64 an, .int .i64 ad])
  clear hbx
  generalize w.alloc (.cells #[.int .i64 an, .int .i64 ad] 56) = Vx at *
  have hby := below_new1 Vx (.cells #[.int .i64 bn, .int .i64 bd] 56)
  replace kx := Lib.hid (kx.out.keep hby)
  have zy : (Vx.alloc (.cells #[.int .i64 bn, .int .i64 bd] 56)).heap.size = Vx.heap.size + 1 := by simp
  replace HB := Lib.hid (HB.out.trans (hby.mono HB.out.size))
  have ky := Lib.hid (Lok.new Vx 56 #[.int .i64 bn, .int .i64 bd])
  clear hby
  generalize Vx.alloc (.cells #[.int .i64 bn, .int .i64 bd] 56) = Vy at *
  rw [zx] at ky
  clear zx zy
  have x0 := kx.out.cell (i := 0) rfl
  have x1 := kx.out.cell (i := 1) rfl
  go_wp2_with fail
  clear x0 x1
  (((with_reducible refine (I1.out _).mono ?_); rintro e w1 ⟨rfl, hb1⟩); replace HB := Lib.hid (HB.out.trans (hb1.mono HB.out.size)); replace kx := Lib.hid (kx.out.keep hb1); replace ky := Lib.hid (ky.out.keep hb1); clear hb1)
  go_upto_region 9 with fail
  have ST := Lib.hid (past_stays w1)
  have ne : Nonempty (Of (PastF w1)) := ⟨⟨w1, Below.refl _ _⟩⟩
  have a0 : ∀ d : Of (PastF w1), d.world.cell? ⟨w.heap.size, 0, none⟩ = some (.int .i64 an) := fun d => keepc d.holds (kx.out.cell (i := 0) rfl)
  have a1 : ∀ d : Of (PastF w1), d.world.cell? ⟨w.heap.size, 1, none⟩ = some (.int .i64 ad) := fun d => keepc d.holds (kx.out.cell (i := 1) rfl)
  have a2 : ∀ d : Of (PastF w1), d.world.cell? ⟨w.heap.size + 1, 0, none⟩ = some (.int .i64 bn) := fun d => keepc d.holds (ky.out.cell (i := 0) rfl)
  have a3 : ∀ d : Of (PastF w1), d.world.cell? ⟨w.heap.size + 1, 1, none⟩ = some (.int .i64 bd) := fun d => keepc d.holds (ky.out.cell (i := 1) rfl)
  refine wp_region_class (S := PastF w1) (by kernel_rfl) (by kernel_rfl) (Below.refl _ _).drew ?_
  repeat (go_big_quiet_step (first | (go_at_call 40; first | (with_reducible exact class_call ST.out _ (I1.out _)) | (with_reducible exact class_call ST.out _ (I2.out _)))))
  refine wpQuiet_nil ?_
  rintro _ ⟨d, rfl⟩
  have hBd := (show Below w1.heap.size w1 d.world from d.holds)
  replace HB := Lib.hid (HB.out.trans (hBd.mono HB.out.size))
  replace kx := Lib.hid (kx.out.keep hBd)
  replace ky := Lib.hid (ky.out.keep hBd)
  clear a0 a1 a2 a3 ne ST hBd
  generalize d.world = wd at *
  clear d
  have x0 := kx.out.cell (i := 0) rfl
  have y0 := ky.out.cell (i := 0) rfl
  have x1 := kx.out.cell (i := 1) rfl
  have y1 := ky.out.cell (i := 1) rfl
  go_wp2_with fail
  (((with_reducible refine (rorder_any _ _ _).mono ?_); rintro e w3 ⟨rfl, hb3⟩); replace HB := Lib.hid (HB.out.trans (hb3.mono HB.out.size)); clear hb3)
  go_wp2
  go_ret
  exact ⟨rfl, HB.out⟩

set_option maxRecDepth 100000 in
set_option maxHeartbeats 2000000 in
theorem rcmp_nn2 (an ad bn bd : Int) (w : World) (h : (an != bn) = false)
    (I1 : Hid (∀ W, Calls Try.prog 40 #[.agg #[.int .i64 an, .int .i64 ad]] W fun r w' => r = .returned (.bool false) ∧ Below W.heap.size W w'))
    (I2 : Hid (∀ W, Calls Try.prog 40 #[.agg #[.int .i64 bn, .int .i64 bd]] W fun r w' => r = .returned (.bool false) ∧ Below W.heap.size W w')) :
    Calls Try.prog 31 #[.agg #[.int .i64 an, .int .i64 ad], .agg #[.int .i64 bn, .int .i64 bd]] w fun e w' => e = .returned (.int .i64 (ordI ad bd)) ∧ Below w.heap.size w w' := by
  go_enter Try.func31, Try.ntmps31
  go_upto_region 1 with fail
  have hbx := below_new1 w (.cells #[.int .i64 an, .int .i64 ad] 56)
  have zx : (w.alloc (.cells #[.int .i64 an, .int .i64 ad] 56)).heap.size = w.heap.size + 1 := by simp
  have HB := Lib.hid hbx
  have kx := Lib.hid (Lok.new w 56 #[.int .i64 an, .int .i64 ad])
  clear hbx
  generalize w.alloc (.cells #[.int .i64 an, .int .i64 ad] 56) = Vx at *
  have hby := below_new1 Vx (.cells #[.int .i64 bn, .int .i64 bd] 56)
  replace kx := Lib.hid (kx.out.keep hby)
  have zy : (Vx.alloc (.cells #[.int .i64 bn, .int .i64 bd] 56)).heap.size = Vx.heap.size + 1 := by simp
  replace HB := Lib.hid (HB.out.trans (hby.mono HB.out.size))
  have ky := Lib.hid (Lok.new Vx 56 #[.int .i64 bn, .int .i64 bd])
  clear hby
  generalize Vx.alloc (.cells #[.int .i64 bn, .int .i64 bd] 56) = Vy at *
  rw [zx] at ky
  clear zx zy
  have x0 := kx.out.cell (i := 0) rfl
  have x1 := kx.out.cell (i := 1) rfl
  go_wp2_with fail
  clear x0 x1
  (((with_reducible refine (I1.out _).mono ?_); rintro e w1 ⟨rfl, hb1⟩); replace HB := Lib.hid (HB.out.trans (hb1.mono HB.out.size)); replace kx := Lib.hid (kx.out.keep hb1); replace ky := Lib.hid (ky.out.keep hb1); clear hb1)
  go_upto_region 9 with fail
  have ST := Lib.hid (past_stays w1)
  have ne : Nonempty (Of (PastF w1)) := ⟨⟨w1, Below.refl _ _⟩⟩
  have a0 : ∀ d : Of (PastF w1), d.world.cell? ⟨w.heap.size, 0, none⟩ = some (.int .i64 an) := fun d => keepc d.holds (kx.out.cell (i := 0) rfl)
  have a1 : ∀ d : Of (PastF w1), d.world.cell? ⟨w.heap.size, 1, none⟩ = some (.int .i64 ad) := fun d => keepc d.holds (kx.out.cell (i := 1) rfl)
  have a2 : ∀ d : Of (PastF w1), d.world.cell? ⟨w.heap.size + 1, 0, none⟩ = some (.int .i64 bn) := fun d => keepc d.holds (ky.out.cell (i := 0) rfl)
  have a3 : ∀ d : Of (PastF w1), d.world.cell? ⟨w.heap.size + 1, 1, none⟩ = some (.int .i64 bd) := fun d => keepc d.holds (ky.out.cell (i := 1) rfl)
  refine wp_region_class (S := PastF w1) (by kernel_rfl) (by kernel_rfl) (Below.refl _ _).drew ?_
  repeat (go_big_quiet_step (first | (go_at_call 40; first | (with_reducible exact class_call ST.out _ (I1.out _)) | (with_reducible exact class_call ST.out _ (I2.out _)))))
  refine wpQuiet_nil ?_
  rintro _ ⟨d, rfl⟩
  have hBd := (show Below w1.heap.size w1 d.world from d.holds)
  replace HB := Lib.hid (HB.out.trans (hBd.mono HB.out.size))
  replace kx := Lib.hid (kx.out.keep hBd)
  replace ky := Lib.hid (ky.out.keep hBd)
  clear a0 a1 a2 a3 ne ST hBd
  generalize d.world = wd at *
  clear d
  have x0 := kx.out.cell (i := 0) rfl
  have y0 := ky.out.cell (i := 0) rfl
  have x1 := kx.out.cell (i := 1) rfl
  have y1 := ky.out.cell (i := 1) rfl
  go_wp2_with fail
  (((with_reducible refine (rorder_any _ _ _).mono ?_); rintro e w3 ⟨rfl, hb3⟩); replace HB := Lib.hid (HB.out.trans (hb3.mono HB.out.size)); clear hb3)
  go_wp2
  go_ret
  exact ⟨rfl, HB.out⟩

theorem rcmp_any (an ad bn bd : Int) (w : World) :
    Calls Try.prog 31 #[.agg #[.int .i64 an, .int .i64 ad], .agg #[.int .i64 bn, .int .i64 bd]] w fun e w' => e = .returned (.int .i64 (cmpF an ad bn bd)) ∧ Below w.heap.size w w' := by
  by_cases h : FR an ad <;> by_cases k : FR bn bd
  · rw [cmpF_right h k]; exact rcmp_right an ad bn bd w h k
  · rw [cmpF_other (fun x => k x.2), rkF_yes h, rkF_no k, show or3 (ordI 1 0) (ordI an bn) (ordI ad bd) = 1 from or3_1 _ _ (by decide)]
    exact rcmp_yn an ad bn bd w (Lib.hid fun W => ris_f_yes an ad W h) (Lib.hid fun W => ris_f_no bn bd W k)
  · rw [cmpF_other (fun x => h x.1), rkF_no h, rkF_yes k, show or3 (ordI 0 1) (ordI an bn) (ordI ad bd) = -1 from or3_1 _ _ (by decide)]
    exact rcmp_ny an ad bn bd w (Lib.hid fun W => ris_f_no an ad W h) (Lib.hid fun W => ris_f_yes bn bd W k)
  · rw [cmpF_other (fun x => h x.1), rkF_no h, rkF_no k, ordI_eq rfl]
    have J1 := Lib.hid fun W => ris_f_no an ad W h
    have J2 := Lib.hid fun W => ris_f_no bn bd W k
    by_cases e : an = bn
    · subst e
      rw [ordI_eq rfl, or3_3]
      exact rcmp_nn2 an ad an bd w (by simp) J1 J2
    · rw [or3_2 _ (by rcases ordI_ways an bn with ⟨_, z⟩ | ⟨z, _⟩ | ⟨_, z⟩ <;> omega)]
      exact rcmp_nn1 an ad bn bd w (by rw [bne_iff_ne]; exact e) J1 J2
end Go.Proofs.Ytfghjfgdjlkooaa
