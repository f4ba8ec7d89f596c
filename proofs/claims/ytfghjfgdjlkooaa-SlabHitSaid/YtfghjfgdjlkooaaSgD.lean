/-
  Contracts of package sign: parts, product, Volume, Facing. (gen/SgD.py)
-/
import Derived.Test.YtfghjfgdjlkooaaSgB
import Derived.Test.YtfghjfgdjlkooaaSgC
import Derived.Test.YtfghjfgdjlkooaaVcEq
namespace Go.Proofs.Ytfghjfgdjlkooaa
open Go.RowKit

set_option maxRecDepth 100000 in
set_option maxHeartbeats 1000000 in
theorem sparts_any (x y z : Int) (w : World) :
    Calls Try.prog 57 #[.agg #[.int .i64 x, .int .i64 y, .int .i64 z]] w fun e w' => e = .returned (.agg #[.int .i64 x, .int .i64 y, .int .i64 z]) ∧ Below w.heap.size w w' := by
  go_enter Try.func57, Try.ntmps57
  go_wp2
  exact bodyPost_ret (v := .agg #[.int .i64 x, .int .i64 y, .int .i64 z]) (by simp [results, Try.results57, go_sem, *]) rfl ⟨rfl, by (repeat (first | exact Below.refl _ _ | assumption | refine Below.drew ?_ | refine below_drewN ?_ _ | refine Below.setCell ?_ (by first | omega | (simp; done) | (simp; omega)) _ | refine Below.alloc ?_ (by first | omega | (simp; done) | (simp; omega)) _))⟩

/-- Parts whose products are not far from 0. -/
def FarP (a b c d e f : Int) : Prop := ∀ k, -70368744177664 ≤ pt a b c k * pt d e f k ∧ pt a b c k * pt d e f k ≤ 70368744177664
theorem farP_of {a b c d e f : Int} (h1 : -70368744177664 ≤ a * d ∧ a * d ≤ 70368744177664) (h2 : -70368744177664 ≤ b * e ∧ b * e ≤ 70368744177664) (h3 : -70368744177664 ≤ c * f ∧ c * f ≤ 70368744177664) : FarP a b c d e f := by
  intro k; unfold pt; split
  · exact h1
  · split
    · exact h2
    · exact h3
theorem farP_sum {a b c d e f : Int} (h : FarP a b c d e f) (k : Nat) : -(70368744177664 * (k : Int)) ≤ dS a b c d e f k ∧ dS a b c d e f k ≤ 70368744177664 * (k : Int) := by
  induction k with
  | zero => exact ⟨by show _ ≤ (0 : Int); omega, by show (0 : Int) ≤ _; omega⟩
  | succ k ih =>
    have p := h k
    show _ ≤ dS a b c d e f k + pt a b c k * pt d e f k ∧ dS a b c d e f k + pt a b c k * pt d e f k ≤ _
    omega

set_option maxRecDepth 100000 in
set_option maxHeartbeats 2000000 in
theorem product_any (a b c d e f : Int) (w : World) (hp : FarP a b c d e f) :
    Calls Try.prog 46 #[.agg #[.int .i64 a, .int .i64 b, .int .i64 c], .agg #[.int .i64 d, .int .i64 e, .int .i64 f]] w fun e' w' => e' = .returned (.int .i64 (a * d + b * e + c * f)) ∧ Below w.heap.size w w' := by
  have HB := Lib.hid (Below.refl w.heap.size w)
  have BD := Lib.hid (farP_sum hp)
  have PD := Lib.hid hp
  rw [← dS_3 a b c d e f]
  have P1 := Lib.hid (fun W => sparts_any a b c W)
  have P2 := Lib.hid (fun W => sparts_any d e f W)
  clear hp
  go_enter Try.func46, Try.ntmps46
  go_upto_region 1 with fail
  have hbx := below_new1 w (.cells #[.int .i64 a, .int .i64 b, .int .i64 c] 23)
  have zx : (w.alloc (.cells #[.int .i64 a, .int .i64 b, .int .i64 c] 23)).heap.size = w.heap.size + 1 := by simp
  have HB := Lib.hid hbx
  have kx := Lib.hid (Lok.new w 23 #[.int .i64 a, .int .i64 b, .int .i64 c])
  clear hbx
  generalize w.alloc (.cells #[.int .i64 a, .int .i64 b, .int .i64 c] 23) = Vx at *
  have hby := below_new1 Vx (.cells #[.int .i64 d, .int .i64 e, .int .i64 f] 23)
  replace kx := Lib.hid (kx.out.keep hby)
  have zy : (Vx.alloc (.cells #[.int .i64 d, .int .i64 e, .int .i64 f] 23)).heap.size = Vx.heap.size + 1 := by simp
  replace HB := Lib.hid (HB.out.trans (hby.mono HB.out.size))
  have ky := Lib.hid (Lok.new Vx 23 #[.int .i64 d, .int .i64 e, .int .i64 f])
  clear hby
  generalize Vx.alloc (.cells #[.int .i64 d, .int .i64 e, .int .i64 f] 23) = Vy at *
  rw [zx] at ky
  clear zx zy
  have x0 := kx.out.cell (i := 0) rfl
  have x1 := kx.out.cell (i := 1) rfl
  have x2 := kx.out.cell (i := 2) rfl
  have y0 := ky.out.cell (i := 0) rfl
  have y1 := ky.out.cell (i := 1) rfl
  have y2 := ky.out.cell (i := 2) rfl
  refine wp_region_rel (by kernel_rfl) [5, 6, 9, 10, 11, 12] ?Fr1 ?hFr1
    (fun L u W => Below Vy.heap.size Vy W ∧ (L 0 = true → u 9 = .agg #[.int .i64 a, .int .i64 b, .int .i64 c]) ∧ (L 1 = true → u 10 = .agg #[.int .i64 a, .int .i64 b, .int .i64 c]) ∧ (L 2 = true → u 11 = .agg #[.int .i64 d, .int .i64 e, .int .i64 f]) ∧ (L 3 = true → u 12 = .agg #[.int .i64 d, .int .i64 e, .int .i64 f]) ∧ (L 4 = true → ∃ (g : Nat) (x4_0 x4_1 x4_2 : Value), u 5 = .pointer (some ⟨g, 0, none⟩) ∧ Vy.heap.size ≤ g ∧ Lok W g 47 #[x4_0, x4_1, x4_2] ∧ (L 6 = true → x4_0 = .int .i64 a ∧ x4_1 = .int .i64 b ∧ x4_2 = .int .i64 c)) ∧ (L 6 = true → L 4 = true) ∧ (L 5 = true → ∃ (g : Nat) (x5_0 x5_1 x5_2 : Value), u 6 = .pointer (some ⟨g, 0, none⟩) ∧ Vy.heap.size ≤ g ∧ Lok W g 47 #[x5_0, x5_1, x5_2] ∧ (L 7 = true → x5_0 = .int .i64 d ∧ x5_1 = .int .i64 e ∧ x5_2 = .int .i64 f)) ∧ (L 7 = true → L 5 = true) ∧ (L 4 = true → L 5 = true → u 5 ≠ u 6)) (by kernel_rfl) (by kernel_rfl) 8 rfl ?h0r1 ?stepr1 ?finr1
  case hFr1 => intro u; simp only [putAll, Act.put, List.setIfInBounds_toArray, List.set]; exact rfl
  case h0r1 => intro L u hL; exact ⟨(Below.refl _ _).drew, (fun h => by simp [hL] at h), (fun h => by simp [hL] at h), (fun h => by simp [hL] at h), (fun h => by simp [hL] at h), (fun h => by simp [hL] at h), (fun h => by simp [hL] at h), (fun h => by simp [hL] at h), (fun h => by simp [hL] at h), (fun h => by simp [hL] at h)⟩
  case stepr1 =>
    refine ops_all (ops_cons ?s0r1 (ops_cons ?s1r1 (ops_cons ?s2r1 (ops_cons ?s3r1 (ops_cons ?s4r1 (ops_cons ?s5r1 (ops_cons ?s6r1 (ops_cons ?s7r1 (ops_nil)))))))))
    case s0r1 =>
      rintro L u W ⟨hB, c0, c1, c2, c3, c4, d6, c5, d7, y4_5⟩ hf hd K hK
      dsimp only at hK
      have t0 := keepc hB x0
      have t1 := keepc hB x1
      have t2 := keepc hB x2
      clear hd
      go_simp
      refine hK _ _ ?_ (fun h => by cases h)
      intro s hs
      cases hs
      exact ⟨hB, (fun _ => rfl), c1, c2, c3, c4, d6, c5, d7, y4_5⟩
    case s1r1 =>
      rintro L u W ⟨hB, c0, c1, c2, c3, c4, d6, c5, d7, y4_5⟩ hf hd K hK
      dsimp only at hK
      have hd0 : L 0 = true := (by first | (refine hd ⟨0, .data⟩ ?_ rfl; simp; done) | (refine hd ⟨0, .guard⟩ ?_ rfl; simp; done) | (refine hd ⟨0, .phase⟩ ?_ rfl; simp; done) | (refine hd ⟨0, .chain⟩ ?_ rfl; simp; done))
      have e0 := c0 hd0
      rw [e0] at hK
      clear hd0
      clear hd
      go_simp
      go_wp2_with (go_at_call 57; ((with_reducible refine (P1.out _).mono ?_); rintro e w5 ⟨rfl, hb⟩))
      refine hK _ _ ?_ (fun h => by cases h)
      intro s hs
      cases hs
      exact ⟨hB.trans (hb.mono hB.size), c0, (fun _ => rfl), c2, c3, (fun h => by obtain ⟨g, x4_0, x4_1, x4_2, k1, k2, k3, k4⟩ := c4 h; exact ⟨g, x4_0, x4_1, x4_2, k1, k2, k3.keep hb, k4⟩), d6, (fun h => by obtain ⟨g, x5_0, x5_1, x5_2, k1, k2, k3, k4⟩ := c5 h; exact ⟨g, x5_0, x5_1, x5_2, k1, k2, k3.keep hb, k4⟩), d7, y4_5⟩
    case s2r1 =>
      rintro L u W ⟨hB, c0, c1, c2, c3, c4, d6, c5, d7, y4_5⟩ hf hd K hK
      dsimp only at hK
      have t0 := keepc hB y0
      have t1 := keepc hB y1
      have t2 := keepc hB y2
      clear hd
      go_simp
      refine hK _ _ ?_ (fun h => by cases h)
      intro s hs
      cases hs
      exact ⟨hB, c0, c1, (fun _ => rfl), c3, c4, d6, c5, d7, y4_5⟩
    case s3r1 =>
      rintro L u W ⟨hB, c0, c1, c2, c3, c4, d6, c5, d7, y4_5⟩ hf hd K hK
      dsimp only at hK
      have hd2 : L 2 = true := (by first | (refine hd ⟨2, .data⟩ ?_ rfl; simp; done) | (refine hd ⟨2, .guard⟩ ?_ rfl; simp; done) | (refine hd ⟨2, .phase⟩ ?_ rfl; simp; done) | (refine hd ⟨2, .chain⟩ ?_ rfl; simp; done))
      have e2 := c2 hd2
      rw [e2] at hK
      clear hd2
      clear hd
      go_simp
      go_wp2_with (go_at_call 57; ((with_reducible refine (P2.out _).mono ?_); rintro e w5 ⟨rfl, hb⟩))
      refine hK _ _ ?_ (fun h => by cases h)
      intro s hs
      cases hs
      exact ⟨hB.trans (hb.mono hB.size), c0, c1, c2, (fun _ => rfl), (fun h => by obtain ⟨g, x4_0, x4_1, x4_2, k1, k2, k3, k4⟩ := c4 h; exact ⟨g, x4_0, x4_1, x4_2, k1, k2, k3.keep hb, k4⟩), d6, (fun h => by obtain ⟨g, x5_0, x5_1, x5_2, k1, k2, k3, k4⟩ := c5 h; exact ⟨g, x5_0, x5_1, x5_2, k1, k2, k3.keep hb, k4⟩), d7, y4_5⟩
    case s4r1 =>
      rintro L u W ⟨hB, c0, c1, c2, c3, c4, d6, c5, d7, y4_5⟩ hf hd K hK
      dsimp only at hK
      go_simp
      have hb : Below W.heap.size W (W.alloc (.cells #[.int .i64 0, .int .i64 0, .int .i64 0] 47)) := (Below.refl _ W).alloc (Nat.le_refl _) _
      refine hK _ _ ?_ (fun h => by cases h)
      intro s hs
      cases hs
      exact ⟨hB.trans (hb.mono hB.size), c0, c1, c2, c3, (fun _ => ⟨_, _, _, _, rfl, hB.size, Lok.new _ _ _, fun h => absurd (d6 h) (by rw [hf]; decide)⟩), (fun _ => rfl), (fun h => by obtain ⟨g, x5_0, x5_1, x5_2, k1, k2, k3, k4⟩ := c5 h; exact ⟨g, x5_0, x5_1, x5_2, k1, k2, k3.keep hb, k4⟩), d7, (fun _ h => by obtain ⟨g, x5_0, x5_1, x5_2, k1, k2, k3, k4⟩ := c5 h; exact ptr_new k1 k3)⟩
    case s5r1 =>
      rintro L u W ⟨hB, c0, c1, c2, c3, c4, d6, c5, d7, y4_5⟩ hf hd K hK
      dsimp only at hK
      go_simp
      have hb : Below W.heap.size W (W.alloc (.cells #[.int .i64 0, .int .i64 0, .int .i64 0] 47)) := (Below.refl _ W).alloc (Nat.le_refl _) _
      refine hK _ _ ?_ (fun h => by cases h)
      intro s hs
      cases hs
      exact ⟨hB.trans (hb.mono hB.size), c0, c1, c2, c3, (fun h => by obtain ⟨g, x4_0, x4_1, x4_2, k1, k2, k3, k4⟩ := c4 h; exact ⟨g, x4_0, x4_1, x4_2, k1, k2, k3.keep hb, k4⟩), d6, (fun _ => ⟨_, _, _, _, rfl, hB.size, Lok.new _ _ _, fun h => absurd (d7 h) (by rw [hf]; decide)⟩), (fun _ => rfl), (fun h _ => by obtain ⟨g, x4_0, x4_1, x4_2, k1, k2, k3, k4⟩ := c4 h; exact ptr_new2 k1 k3)⟩
    case s6r1 =>
      rintro L u W ⟨hB, c0, c1, c2, c3, c4, d6, c5, d7, y4_5⟩ hf hd K hK
      dsimp only at hK
      have hd4 : L 4 = true := hd ⟨4, .data⟩ (by simp) rfl
      have hd1 : L 1 = true := (by first | (refine hd ⟨1, .data⟩ ?_ rfl; simp; done) | (refine hd ⟨1, .guard⟩ ?_ rfl; simp; done) | (refine hd ⟨1, .phase⟩ ?_ rfl; simp; done) | (refine hd ⟨1, .chain⟩ ?_ rfl; simp; done))
      obtain ⟨g, x4_0, x4_1, x4_2, e4, k2, k3, k4⟩ := c4 hd4
      rw [e4] at hK
      have e1 := c1 hd1
      rw [e1] at hK
      have t0 := k3.cell (i := 0) rfl
      have f0 := k3.frozen 0
      have t1 := k3.cell (i := 1) rfl
      have f1 := k3.frozen 1
      have t2 := k3.cell (i := 2) rfl
      have f2 := k3.frozen 2
      have HH := Lib.hid (And.intro trivial trivial)
      clear hd
      have hd4' := Lib.hid hd4
      clear hd4
      have hd1' := Lib.hid hd1
      clear hd1
      go_simp
      have hd4 := hd4'.out
      have hd1 := hd1'.out
      have hlok := ((k3.set (i := 0) (v := .int .i64 a)).set (i := 1) (v := .int .i64 b)).set (i := 2) (v := .int .i64 c)
      refine hK undef _ (fun s h => by cases h) (fun _ => ?_)
      exact ⟨((hB.setCell k2 _).setCell k2 _).setCell k2 _, c0, (fun _ => rfl), c2, c3, (fun _ => ⟨g, _, _, _, rfl, k2, hlok, fun _ => ⟨rfl, rfl, rfl⟩⟩), (fun _ => hd4), (fun h => by obtain ⟨g2, x5_0, x5_1, x5_2, m1, m2, m3, m4⟩ := c5 h; have hne := ptr_apart (y4_5 hd4 h) e4 m1; exact ⟨g2, x5_0, x5_1, x5_2, m1, m2, ((m3.far hne).far hne).far hne, m4⟩), d7, (fun h1 h2 => by first | exact y4_5 h1 h2 | (rw [← e4]; exact y4_5 h1 h2))⟩
    case s7r1 =>
      rintro L u W ⟨hB, c0, c1, c2, c3, c4, d6, c5, d7, y4_5⟩ hf hd K hK
      dsimp only at hK
      have hd5 : L 5 = true := hd ⟨5, .data⟩ (by simp) rfl
      have hd3 : L 3 = true := (by first | (refine hd ⟨3, .data⟩ ?_ rfl; simp; done) | (refine hd ⟨3, .guard⟩ ?_ rfl; simp; done) | (refine hd ⟨3, .phase⟩ ?_ rfl; simp; done) | (refine hd ⟨3, .chain⟩ ?_ rfl; simp; done))
      obtain ⟨g, x5_0, x5_1, x5_2, e5, k2, k3, k4⟩ := c5 hd5
      rw [e5] at hK
      have e3 := c3 hd3
      rw [e3] at hK
      have t0 := k3.cell (i := 0) rfl
      have f0 := k3.frozen 0
      have t1 := k3.cell (i := 1) rfl
      have f1 := k3.frozen 1
      have t2 := k3.cell (i := 2) rfl
      have f2 := k3.frozen 2
      have HH := Lib.hid (And.intro trivial trivial)
      clear hd
      have hd5' := Lib.hid hd5
      clear hd5
      have hd3' := Lib.hid hd3
      clear hd3
      go_simp
      have hd5 := hd5'.out
      have hd3 := hd3'.out
      have hlok := ((k3.set (i := 0) (v := .int .i64 d)).set (i := 1) (v := .int .i64 e)).set (i := 2) (v := .int .i64 f)
      refine hK undef _ (fun s h => by cases h) (fun _ => ?_)
      exact ⟨((hB.setCell k2 _).setCell k2 _).setCell k2 _, c0, c1, c2, (fun _ => rfl), (fun h => by obtain ⟨g2, x4_0, x4_1, x4_2, m1, m2, m3, m4⟩ := c4 h; have hne := ptr_apart2 (y4_5 h hd5) m1 e5; exact ⟨g2, x4_0, x4_1, x4_2, m1, m2, ((m3.far hne).far hne).far hne, m4⟩), d6, (fun _ => ⟨g, _, _, _, rfl, k2, hlok, fun _ => ⟨rfl, rfl, rfl⟩⟩), (fun _ => hd5), (fun h1 h2 => by first | exact y4_5 h1 h2 | (rw [← e5]; exact y4_5 h1 h2))⟩
  case finr1 =>
    rintro L u W hL ⟨hB, c0, c1, c2, c3, c4, d6, c5, d7, y4_5⟩
    have e0 := c0 (hL 0 (by decide))
    have e1 := c1 (hL 1 (by decide))
    have e2 := c2 (hL 2 (by decide))
    have e3 := c3 (hL 3 (by decide))
    obtain ⟨g4, x4_0, x4_1, x4_2, e4, hg4, hlok4, hst4⟩ := c4 (hL 4 (by decide))
    obtain ⟨rfl, rfl, rfl⟩ := hst4 (hL 6 (by decide))
    clear hst4
    obtain ⟨g5, x5_0, x5_1, x5_2, e5, hg5, hlok5, hst5⟩ := c5 (hL 5 (by decide))
    obtain ⟨rfl, rfl, rfl⟩ := hst5 (hL 7 (by decide))
    clear hst5
    clear hL c0 c1 c2 c3 c4 d6 c5 d7 y4_5
    try simp only [e0, e1, e2, e3, e4, e5]
    clear e0 e1 e2 e3 e4 e5
    replace HB := Lib.hid (HB.out.trans (hB.mono HB.out.size))
    have K4 := Lib.hid hlok4
    have K5 := Lib.hid hlok5
    clear hB hlok4 hlok5 x0 x1 x2 y0 y1 y2 kx ky P1 P2 hg4 hg5
    go_wp2_with fail
    go_loopw [7, 13] (fun x y wr => ∃ k : Nat, x = .int .i64 (dS a b c d e f k) ∧ y = .int .i64 k ∧ k ≤ 3 ∧ Below W.heap.size W wr) (fun _ y _ => 3 - (intOf y).toNat)
    case atStart => exact ⟨0, rfl, rfl, Nat.zero_le _, Below.refl _ _⟩
    case round =>
      obtain ⟨k, rfl, rfl, hk, hB⟩ := hrel
      have B := Lib.hid hB
      clear hB
      by_cases hlt : k < 3
      · have c0 := (K4.out.keep B.out).cell (pt_at a b c hlt)
        have c1 := (K5.out.keep B.out).cell (pt_at d e f hlt)
        have s := BD.out k
        have p := PD.out k
        have E : dS a b c d e f (k + 1) = dS a b c d e f k + pt a b c k * pt d e f k := rfl
        have e1 : IntKind.i64.wrap (pt a b c k * pt d e f k) = pt a b c k * pt d e f k := IntWalk.i64_in _ (by omega)
        have e2 : IntKind.i64.wrap (dS a b c d e f k + pt a b c k * pt d e f k) = dS a b c d e f (k + 1) := by rw [E]; exact IntWalk.i64_in _ (by omega)
        clear s p E
        generalize pt a b c k = x at *
        generalize pt d e f k = y at *
        generalize dS a b c d e f k = s at *
        obtain ⟨s', hs'⟩ : ∃ s', s' = dS a b c d e f (k + 1) := ⟨_, rfl⟩
        rw [← hs'] at e2
        have HS := Lib.hid hs'
        clear hs'
        have i0 : (0 : Int) ≤ (k : Int) := by omega
        have i1 : (k : Int) < 3 := by omega
        have i2 : ((k : Int)).toNat = k := by omega
        go_wp2_with fail
        go_region
        go_wp2_with fail
        exact ⟨⟨k + 1, by rw [HS.out], by go_num, hlt, B.out.drew⟩, by simp [intOf]; omega⟩
      · obtain rfl : k = 3 := by omega
        go_wp2
        go_ret
        exact ⟨rfl, HB.out.trans (B.out.mono HB.out.size)⟩
set_option maxRecDepth 100000 in
set_option maxHeartbeats 4000000 in
theorem volume_any (a1 a2 a3 b1 b2 b3 c1 c2 c3 d1 d2 d3 : Int) (t : Bool) (ht : (s3 a1 a2 a3 && s3 b1 b2 b3 && s3 c1 c2 c3 && s3 d1 d2 d3) = t) (w : World) :
    Calls Try.prog 34 #[.agg #[.int .i64 a1, .int .i64 a2, .int .i64 a3], .agg #[.int .i64 b1, .int .i64 b2, .int .i64 b3], .agg #[.int .i64 c1, .int .i64 c2, .int .i64 c3], .agg #[.int .i64 d1, .int .i64 d2, .int .i64 d3]] w fun e' w' => e' = .returned (.tuple #[.int .i64 (vF t (vo a1 a2 a3 b1 b2 b3 c1 c2 c3 d1 d2 d3)), .int .i64 (rE t)]) ∧ Below w.heap.size w w' := by
  have HB := Lib.hid (Below.refl w.heap.size w)
  have S := Lib.hid (fun g T W h => small3_4 a1 a2 a3 b1 b2 b3 c1 c2 c3 d1 d2 d3 t ht g T W h)
  cases t with
  | false =>
    rw [vF_no, show rE false = 5 from rfl]
    clear ht
    go_enter Try.func34, Try.ntmps34
    go_upto_region 1 with fail
    have hbx := below_new1 w (.cells #[.int .i64 a1, .int .i64 a2, .int .i64 a3] 23)
    have zx : (w.alloc (.cells #[.int .i64 a1, .int .i64 a2, .int .i64 a3] 23)).heap.size = w.heap.size + 1 := by simp
    have HB := Lib.hid hbx
    have kx := Lib.hid (Lok.new w 23 #[.int .i64 a1, .int .i64 a2, .int .i64 a3])
    clear hbx
    generalize w.alloc (.cells #[.int .i64 a1, .int .i64 a2, .int .i64 a3] 23) = Vx at *
    have hby := below_new1 Vx (.cells #[.int .i64 b1, .int .i64 b2, .int .i64 b3] 23)
    replace kx := Lib.hid (kx.out.keep hby)
    have zy : (Vx.alloc (.cells #[.int .i64 b1, .int .i64 b2, .int .i64 b3] 23)).heap.size = Vx.heap.size + 1 := by simp
    replace HB := Lib.hid (HB.out.trans (hby.mono HB.out.size))
    have ky := Lib.hid (Lok.new Vx 23 #[.int .i64 b1, .int .i64 b2, .int .i64 b3])
    clear hby
    generalize Vx.alloc (.cells #[.int .i64 b1, .int .i64 b2, .int .i64 b3] 23) = Vy at *
    rw [zx] at ky zy
    have hbz := below_new1 Vy (.cells #[.int .i64 c1, .int .i64 c2, .int .i64 c3] 23)
    replace kx := Lib.hid (kx.out.keep hbz)
    replace ky := Lib.hid (ky.out.keep hbz)
    have zz : (Vy.alloc (.cells #[.int .i64 c1, .int .i64 c2, .int .i64 c3] 23)).heap.size = Vy.heap.size + 1 := by simp
    replace HB := Lib.hid (HB.out.trans (hbz.mono HB.out.size))
    have kz := Lib.hid (Lok.new Vy 23 #[.int .i64 c1, .int .i64 c2, .int .i64 c3])
    clear hbz
    generalize Vy.alloc (.cells #[.int .i64 c1, .int .i64 c2, .int .i64 c3] 23) = Vz at *
    rw [zy] at kz zz
    have hbu := below_new1 Vz (.cells #[.int .i64 d1, .int .i64 d2, .int .i64 d3] 23)
    replace kx := Lib.hid (kx.out.keep hbu)
    replace ky := Lib.hid (ky.out.keep hbu)
    replace kz := Lib.hid (kz.out.keep hbu)
    have zu : (Vz.alloc (.cells #[.int .i64 d1, .int .i64 d2, .int .i64 d3] 23)).heap.size = Vz.heap.size + 1 := by simp
    replace HB := Lib.hid (HB.out.trans (hbu.mono HB.out.size))
    have ku := Lib.hid (Lok.new Vz 23 #[.int .i64 d1, .int .i64 d2, .int .i64 d3])
    clear hbu
    generalize Vz.alloc (.cells #[.int .i64 d1, .int .i64 d2, .int .i64 d3] 23) = Vu at *
    rw [zz] at ku
    clear zx zy zz zu
    have x0 := kx.out.cell (i := 0) rfl
    have x1 := kx.out.cell (i := 1) rfl
    have x2 := kx.out.cell (i := 2) rfl
    have y0 := ky.out.cell (i := 0) rfl
    have y1 := ky.out.cell (i := 1) rfl
    have y2 := ky.out.cell (i := 2) rfl
    have z0 := kz.out.cell (i := 0) rfl
    have z1 := kz.out.cell (i := 1) rfl
    have z2 := kz.out.cell (i := 2) rfl
    have u0 := ku.out.cell (i := 0) rfl
    have u1 := ku.out.cell (i := 1) rfl
    have u2 := ku.out.cell (i := 2) rfl
    go_wp2_with fail
    clear x0 x1 x2 y0 y1 y2 z0 z1 z2 u0 u1 u2
    have hbr := below_new1 Vu (.cells #[.int .i64 a1, .int .i64 a2, .int .i64 a3, .int .i64 b1, .int .i64 b2, .int .i64 b3, .int .i64 c1, .int .i64 c2, .int .i64 c3, .int .i64 d1, .int .i64 d2, .int .i64 d3] 23)
    replace kx := Lib.hid (kx.out.keep hbr)
    replace ky := Lib.hid (ky.out.keep hbr)
    replace kz := Lib.hid (kz.out.keep hbr)
    replace ku := Lib.hid (ku.out.keep hbr)
    have zr : (Vu.alloc (.cells #[.int .i64 a1, .int .i64 a2, .int .i64 a3, .int .i64 b1, .int .i64 b2, .int .i64 b3, .int .i64 c1, .int .i64 c2, .int .i64 c3, .int .i64 d1, .int .i64 d2, .int .i64 d3] 23)).heap.size = Vu.heap.size + 1 := by simp
    replace HB := Lib.hid (HB.out.trans (hbr.mono HB.out.size))
    have kr := Lib.hid (Lok.new Vu 23 #[.int .i64 a1, .int .i64 a2, .int .i64 a3, .int .i64 b1, .int .i64 b2, .int .i64 b3, .int .i64 c1, .int .i64 c2, .int .i64 c3, .int .i64 d1, .int .i64 d2, .int .i64 d3])
    clear hbr
    generalize Vu.alloc (.cells #[.int .i64 a1, .int .i64 a2, .int .i64 a3, .int .i64 b1, .int .i64 b2, .int .i64 b3, .int .i64 c1, .int .i64 c2, .int .i64 c3, .int .i64 d1, .int .i64 d2, .int .i64 d3] 23) = Vr at *
    clear zr
    generalize Vu.heap.size = gr at *
    (((with_reducible refine (S.out _ _ _ kr.out).mono ?_); rintro e w1 ⟨rfl, hb1⟩); replace HB := Lib.hid (HB.out.trans (hb1.mono HB.out.size)); replace kx := Lib.hid (kx.out.keep hb1); replace ky := Lib.hid (ky.out.keep hb1); replace kz := Lib.hid (kz.out.keep hb1); replace ku := Lib.hid (ku.out.keep hb1); clear hb1)
    clear S kr
    go_wp2
    go_ret2
    exact ⟨rfl, HB.out⟩
  | true =>
    rw [vF_yes, show rE true = 0 from rfl]
    rw [Bool.and_eq_true] at ht
    obtain ⟨h3, hd⟩ := ht
    have Q := Lib.hid (fun W => space_any a1 a2 a3 b1 b2 b3 c1 c2 c3 true h3 W)
    rw [vF_yes, vF_yes, vF_yes, show rE true = 0 from rfl] at Q
    rw [Bool.and_eq_true, Bool.and_eq_true] at h3
    obtain ⟨⟨ha, hb⟩, hc⟩ := h3
    obtain ⟨p1, p2, p3⟩ := vo_wraps ha hb hc hd
    have U := Lib.hid (fun W => sub3_sm ha hd W)
    have X := Lib.hid (fun W => product_any _ _ _ _ _ _ W (farP_of p1 p2 p3))
    rw [show ar a2 a3 b2 b3 c2 c3 * (d1 - a1) + ar a3 a1 b3 b1 c3 c1 * (d2 - a2) + ar a1 a2 b1 b2 c1 c2 * (d3 - a3) = vo a1 a2 a3 b1 b2 b3 c1 c2 c3 d1 d2 d3 from rfl] at X
    generalize vo a1 a2 a3 b1 b2 b3 c1 c2 c3 d1 d2 d3 = v at *
    generalize ar a2 a3 b2 b3 c2 c3 = n1 at *
    generalize ar a3 a1 b3 b1 c3 c1 = n2 at *
    generalize ar a1 a2 b1 b2 c1 c2 = n3 at *
    clear ha hb hc hd p1 p2 p3
    go_enter Try.func34, Try.ntmps34
    go_upto_region 1 with fail
    have hbx := below_new1 w (.cells #[.int .i64 a1, .int .i64 a2, .int .i64 a3] 23)
    have zx : (w.alloc (.cells #[.int .i64 a1, .int .i64 a2, .int .i64 a3] 23)).heap.size = w.heap.size + 1 := by simp
    have HB := Lib.hid hbx
    have kx := Lib.hid (Lok.new w 23 #[.int .i64 a1, .int .i64 a2, .int .i64 a3])
    clear hbx
    generalize w.alloc (.cells #[.int .i64 a1, .int .i64 a2, .int .i64 a3] 23) = Vx at *
    have hby := below_new1 Vx (.cells #[.int .i64 b1, .int .i64 b2, .int .i64 b3] 23)
    replace kx := Lib.hid (kx.out.keep hby)
    have zy : (Vx.alloc (.cells #[.int .i64 b1, .int .i64 b2, .int .i64 b3] 23)).heap.size = Vx.heap.size + 1 := by simp
    replace HB := Lib.hid (HB.out.trans (hby.mono HB.out.size))
    have ky := Lib.hid (Lok.new Vx 23 #[.int .i64 b1, .int .i64 b2, .int .i64 b3])
    clear hby
    generalize Vx.alloc (.cells #[.int .i64 b1, .int .i64 b2, .int .i64 b3] 23) = Vy at *
    rw [zx] at ky zy
    have hbz := below_new1 Vy (.cells #[.int .i64 c1, .int .i64 c2, .int .i64 c3] 23)
    replace kx := Lib.hid (kx.out.keep hbz)
    replace ky := Lib.hid (ky.out.keep hbz)
    have zz : (Vy.alloc (.cells #[.int .i64 c1, .int .i64 c2, .int .i64 c3] 23)).heap.size = Vy.heap.size + 1 := by simp
    replace HB := Lib.hid (HB.out.trans (hbz.mono HB.out.size))
    have kz := Lib.hid (Lok.new Vy 23 #[.int .i64 c1, .int .i64 c2, .int .i64 c3])
    clear hbz
    generalize Vy.alloc (.cells #[.int .i64 c1, .int .i64 c2, .int .i64 c3] 23) = Vz at *
    rw [zy] at kz zz
    have hbu := below_new1 Vz (.cells #[.int .i64 d1, .int .i64 d2, .int .i64 d3] 23)
    replace kx := Lib.hid (kx.out.keep hbu)
    replace ky := Lib.hid (ky.out.keep hbu)
    replace kz := Lib.hid (kz.out.keep hbu)
    have zu : (Vz.alloc (.cells #[.int .i64 d1, .int .i64 d2, .int .i64 d3] 23)).heap.size = Vz.heap.size + 1 := by simp
    replace HB := Lib.hid (HB.out.trans (hbu.mono HB.out.size))
    have ku := Lib.hid (Lok.new Vz 23 #[.int .i64 d1, .int .i64 d2, .int .i64 d3])
    clear hbu
    generalize Vz.alloc (.cells #[.int .i64 d1, .int .i64 d2, .int .i64 d3] 23) = Vu at *
    rw [zz] at ku
    clear zx zy zz zu
    have x0 := kx.out.cell (i := 0) rfl
    have x1 := kx.out.cell (i := 1) rfl
    have x2 := kx.out.cell (i := 2) rfl
    have y0 := ky.out.cell (i := 0) rfl
    have y1 := ky.out.cell (i := 1) rfl
    have y2 := ky.out.cell (i := 2) rfl
    have z0 := kz.out.cell (i := 0) rfl
    have z1 := kz.out.cell (i := 1) rfl
    have z2 := kz.out.cell (i := 2) rfl
    have u0 := ku.out.cell (i := 0) rfl
    have u1 := ku.out.cell (i := 1) rfl
    have u2 := ku.out.cell (i := 2) rfl
    go_wp2_with fail
    clear x0 x1 x2 y0 y1 y2 z0 z1 z2 u0 u1 u2
    have hbr := below_new1 Vu (.cells #[.int .i64 a1, .int .i64 a2, .int .i64 a3, .int .i64 b1, .int .i64 b2, .int .i64 b3, .int .i64 c1, .int .i64 c2, .int .i64 c3, .int .i64 d1, .int .i64 d2, .int .i64 d3] 23)
    replace kx := Lib.hid (kx.out.keep hbr)
    replace ky := Lib.hid (ky.out.keep hbr)
    replace kz := Lib.hid (kz.out.keep hbr)
    replace ku := Lib.hid (ku.out.keep hbr)
    have zr : (Vu.alloc (.cells #[.int .i64 a1, .int .i64 a2, .int .i64 a3, .int .i64 b1, .int .i64 b2, .int .i64 b3, .int .i64 c1, .int .i64 c2, .int .i64 c3, .int .i64 d1, .int .i64 d2, .int .i64 d3] 23)).heap.size = Vu.heap.size + 1 := by simp
    replace HB := Lib.hid (HB.out.trans (hbr.mono HB.out.size))
    have kr := Lib.hid (Lok.new Vu 23 #[.int .i64 a1, .int .i64 a2, .int .i64 a3, .int .i64 b1, .int .i64 b2, .int .i64 b3, .int .i64 c1, .int .i64 c2, .int .i64 c3, .int .i64 d1, .int .i64 d2, .int .i64 d3])
    clear hbr
    generalize Vu.alloc (.cells #[.int .i64 a1, .int .i64 a2, .int .i64 a3, .int .i64 b1, .int .i64 b2, .int .i64 b3, .int .i64 c1, .int .i64 c2, .int .i64 c3, .int .i64 d1, .int .i64 d2, .int .i64 d3] 23) = Vr at *
    clear zr
    generalize Vu.heap.size = gr at *
    (((with_reducible refine (S.out _ _ _ kr.out).mono ?_); rintro e w1 ⟨rfl, hb1⟩); replace HB := Lib.hid (HB.out.trans (hb1.mono HB.out.size)); replace kx := Lib.hid (kx.out.keep hb1); replace ky := Lib.hid (ky.out.keep hb1); replace kz := Lib.hid (kz.out.keep hb1); replace ku := Lib.hid (ku.out.keep hb1); clear hb1)
    clear S kr
    have x0 := kx.out.cell (i := 0) rfl
    have x1 := kx.out.cell (i := 1) rfl
    have x2 := kx.out.cell (i := 2) rfl
    have y0 := ky.out.cell (i := 0) rfl
    have y1 := ky.out.cell (i := 1) rfl
    have y2 := ky.out.cell (i := 2) rfl
    have z0 := kz.out.cell (i := 0) rfl
    have z1 := kz.out.cell (i := 1) rfl
    have z2 := kz.out.cell (i := 2) rfl
    go_wp2_with fail
    clear x0 x1 x2 y0 y1 y2 z0 z1 z2
    ((with_reducible refine (Q.out _).mono ?_); rintro e wn ⟨rfl, hbn⟩)
    replace HB := Lib.hid (HB.out.trans (hbn.mono HB.out.size))
    replace kx := Lib.hid (kx.out.keep hbn)
    replace ky := Lib.hid (ky.out.keep hbn)
    replace kz := Lib.hid (kz.out.keep hbn)
    replace ku := Lib.hid (ku.out.keep hbn)
    clear hbn
    go_upto_region 4 with fail
    have hbn := below_new1 wn (.cells #[.int .i64 n1, .int .i64 n2, .int .i64 n3] 23)
    replace HB := Lib.hid (HB.out.trans (hbn.mono HB.out.size))
    replace kx := Lib.hid (kx.out.keep hbn)
    replace ky := Lib.hid (ky.out.keep hbn)
    replace kz := Lib.hid (kz.out.keep hbn)
    replace ku := Lib.hid (ku.out.keep hbn)
    have kn := Lib.hid (Lok.new wn 23 #[.int .i64 n1, .int .i64 n2, .int .i64 n3])
    clear hbn
    generalize wn.alloc (.cells #[.int .i64 n1, .int .i64 n2, .int .i64 n3] 23) = Vn at *
    generalize wn.heap.size = gn at *
    have qx0 : ∀ D : Of (PastV Vn), _ := fun D => (kx.out.keep (show Below Vn.heap.size Vn D.world from D.holds)).cell (i := 0) rfl
    have qx1 : ∀ D : Of (PastV Vn), _ := fun D => (kx.out.keep (show Below Vn.heap.size Vn D.world from D.holds)).cell (i := 1) rfl
    have qx2 : ∀ D : Of (PastV Vn), _ := fun D => (kx.out.keep (show Below Vn.heap.size Vn D.world from D.holds)).cell (i := 2) rfl
    have qu0 : ∀ D : Of (PastV Vn), _ := fun D => (ku.out.keep (show Below Vn.heap.size Vn D.world from D.holds)).cell (i := 0) rfl
    have qu1 : ∀ D : Of (PastV Vn), _ := fun D => (ku.out.keep (show Below Vn.heap.size Vn D.world from D.holds)).cell (i := 1) rfl
    have qu2 : ∀ D : Of (PastV Vn), _ := fun D => (ku.out.keep (show Below Vn.heap.size Vn D.world from D.holds)).cell (i := 2) rfl
    have qn0 : ∀ D : Of (PastV Vn), _ := fun D => (kn.out.keep (show Below Vn.heap.size Vn D.world from D.holds)).cell (i := 0) rfl
    have qn1 : ∀ D : Of (PastV Vn), _ := fun D => (kn.out.keep (show Below Vn.heap.size Vn D.world from D.holds)).cell (i := 1) rfl
    have qn2 : ∀ D : Of (PastV Vn), _ := fun D => (kn.out.keep (show Below Vn.heap.size Vn D.world from D.holds)).cell (i := 2) rfl
    have ST := Lib.hid (pastV_stays Vn)
    have ne : Nonempty (Of (PastV Vn)) := ⟨⟨Vn, Below.refl _ _⟩⟩
    refine wp_region_class (S := PastV Vn) (by kernel_rfl) (by kernel_rfl) (Below.refl _ _).drew ?_
    repeat (go_big_quiet_step (first | (go_at_call 47; first | (with_reducible exact class_call ST.out _ (U.out _))) | (go_at_call 46; first | (with_reducible exact class_call ST.out _ (X.out _)))))
    refine wpQuiet_nil ?_
    rintro _ ⟨D, rfl⟩
    have hD : Below Vn.heap.size Vn D.world := D.holds
    replace HB := Lib.hid (HB.out.trans (hD.mono HB.out.size))
    replace kx := Lib.hid (kx.out.keep hD)
    replace ky := Lib.hid (ky.out.keep hD)
    replace kz := Lib.hid (kz.out.keep hD)
    replace ku := Lib.hid (ku.out.keep hD)
    replace kn := Lib.hid (kn.out.keep hD)
    generalize D.world = vd at *
    clear qx0 qx1 qx2 qu0 qu1 qu2 qn0 qn1 qn2 ne ST hD
    go_wp2
    go_ret2
    exact ⟨rfl, HB.out⟩
/-- Facing's answers, of a normal. -/
def fcA (t : Bool) (a b c : Int) : Int := if t = true ∧ q3 a b c 0 0 0 = false then (axF a b c 3 : Int) else 0
def fcS (t : Bool) (a b c : Int) : Int := if t = true ∧ q3 a b c 0 0 0 = false then ordI (pt a b c (axF a b c 3)) 0 else 0
def fcE (t : Bool) (a b c : Int) : Int := if t = true then (if q3 a b c 0 0 0 = true then 3 else 0) else 5
theorem ar_i64 {a b c d e f : Int} (ha : SM 16384 a) (hb : SM 16384 b) (hc : SM 16384 c) (hd : SM 16384 d) (he : SM 16384 e) (hf : SM 16384 f) : I64 (ar a b c d e f) := by
  have := ar_bd3 ha hb hc hd he hf
  unfold I64; omega
theorem normal_i64 {a1 a2 a3 b1 b2 b3 c1 c2 c3 : Int} (h : (s3 a1 a2 a3 && s3 b1 b2 b3 && s3 c1 c2 c3) = true) : I64 (ar a2 a3 b2 b3 c2 c3) ∧ I64 (ar a3 a1 b3 b1 c3 c1) ∧ I64 (ar a1 a2 b1 b2 c1 c2) := by
  rw [Bool.and_eq_true, Bool.and_eq_true, s3_iff, s3_iff, s3_iff] at h
  obtain ⟨⟨⟨h1, h2, h3⟩, i1, i2, i3⟩, j1, j2, j3⟩ := h
  exact ⟨ar_i64 h2 h3 i2 i3 j2 j3, ar_i64 h3 h1 i3 i1 j3 j1, ar_i64 h1 h2 i1 i2 j1 j2⟩
end Go.Proofs.Ytfghjfgdjlkooaa
