/-
  Contracts of package vec: Dot.
-/
import Derived.Test.YtmejipfejdckiaaVcD
namespace Go.Proofs.Ytmejipfejdckiaa
open Go.RowKit

/-- The sum of the first k products. -/
def dS (a b c d e f : Int) : Nat → Int
  | 0 => 0
  | k + 1 => dS a b c d e f k + pt a b c k * pt d e f k
def dF (t : Bool) (a b c d e f : Int) : Int := if t = true then a * d + b * e + c * f else 0
theorem dS_3 (a b c d e f : Int) : dS a b c d e f 3 = a * d + b * e + c * f := by simp [dS, pt]
theorem pt_near {a b c : Int} (ha : NR a) (hb : NR b) (hc : NR c) (k : Nat) : NR (pt a b c k) := by
  unfold pt; split
  · exact ha
  · split
    · exact hb
    · exact hc
theorem dS_bd {a b c d e f : Int} (ha : NR a) (hb : NR b) (hc : NR c) (hd : NR d) (he : NR e) (hf : NR f) (k : Nat) : -(1099511627776 * (k : Int)) ≤ dS a b c d e f k ∧ dS a b c d e f k ≤ 1099511627776 * (k : Int) := by
  induction k with
  | zero => exact ⟨by show _ ≤ (0 : Int); omega, by show (0 : Int) ≤ _; omega⟩
  | succ k ih =>
    have p := near_prod (pt_near ha hb hc k) (pt_near hd he hf k)
    show _ ≤ dS a b c d e f k + pt a b c k * pt d e f k ∧ dS a b c d e f k + pt a b c k * pt d e f k ≤ _
    omega
theorem pt_at (a b c : Int) {k : Nat} (h : k < 3) : (#[Value.int .i64 a, Value.int .i64 b, Value.int .i64 c] : Array Value)[k]? = some (.int .i64 (pt a b c k)) := by
  rcases show k = 0 ∨ k = 1 ∨ k = 2 by omega with rfl | rfl | rfl <;> rfl

set_option maxRecDepth 100000 in
set_option maxHeartbeats 2000000 in
theorem dot_any (a b c d e f : Int) (w : World) :
    Calls Try.prog 8 #[.agg #[.int .i64 a, .int .i64 b, .int .i64 c], .agg #[.int .i64 d, .int .i64 e, .int .i64 f]] w fun e' w' => e' = .returned (.tuple #[.int .i64 (dF (n3 a b c && n3 d e f) a b c d e f), .int .i64 (rE (n3 a b c && n3 d e f))]) ∧ Below w.heap.size w w' := by
  have HB := Lib.hid (Below.refl w.heap.size w)
  cases ht : n3 a b c && n3 d e f with
  | false =>
    have I := Lib.hid (fun g T W h => is3_b a b c d e f false ht g T W h)
    rw [show dF false a b c d e f = 0 from rfl, show rE false = 5 from rfl]
    clear ht
    go_enter Try.func8, Try.ntmps8
    go_upto_region 1 with fail
    have hbx := below_new1 w (.cells #[.int .i64 a, .int .i64 b, .int .i64 c] 23)
    have zx : (w.alloc (.cells #[.int .i64 a, .int .i64 b, .int .i64 c] 23)).heap.size = w.heap.size + 1 := by simp
    have HB := Lib.hid hbx
    have kx := Lib.hid (Lok.new w 23 #[.int .i64 a, .int .i64 b, .int .i64 c])
    clear hbx
    generalize w.alloc (.cells #[.int .i64 a, .int .i64 b, .int .i64 c] 23) = Vx at *
    have hby := below_new1 Vx (.cells #[.int .i64 d, .int .i64 e, .int .i64 f] 23)
    replace kx := Lib.hid (kx.out.keep hby)
    have zy : (Vx.alloc (.cells #[.int .i64 d, .int .i64 e, .int .i64 f] 23)).heap.size = Vx.heap.size + 1 := by simp
    replace HB := Lib.hid (HB.out.trans (hby.mono HB.out.size))
    have ky := Lib.hid (Lok.new Vx 23 #[.int .i64 d, .int .i64 e, .int .i64 f])
    clear hby
    generalize Vx.alloc (.cells #[.int .i64 d, .int .i64 e, .int .i64 f] 23) = Vy at *
    rw [zx] at ky
    clear zx zy
    have x0 := kx.out.cell (i := 0) rfl
    have x1 := kx.out.cell (i := 1) rfl
    have x2 := kx.out.cell (i := 2) rfl
    have y0 := ky.out.cell (i := 0) rfl
    have y1 := ky.out.cell (i := 1) rfl
    have y2 := ky.out.cell (i := 2) rfl
    go_wp2_with fail
    clear x0 x1 x2 y0 y1 y2
    have hbr := below_new1 Vy (.cells #[.int .i64 a, .int .i64 b, .int .i64 c, .int .i64 d, .int .i64 e, .int .i64 f] 23)
    have zr : (Vy.alloc (.cells #[.int .i64 a, .int .i64 b, .int .i64 c, .int .i64 d, .int .i64 e, .int .i64 f] 23)).heap.size = Vy.heap.size + 1 := by simp
    replace HB := Lib.hid (HB.out.trans (hbr.mono HB.out.size))
    have kr := Lib.hid (Lok.new Vy 23 #[.int .i64 a, .int .i64 b, .int .i64 c, .int .i64 d, .int .i64 e, .int .i64 f])
    clear hbr
    generalize Vy.alloc (.cells #[.int .i64 a, .int .i64 b, .int .i64 c, .int .i64 d, .int .i64 e, .int .i64 f] 23) = Vr at *
    clear zr
    generalize Vy.heap.size = gr at *
    (((with_reducible refine (I.out _ _ _ kr.out).mono ?_); rintro e w1 ⟨rfl, hb1⟩); replace HB := Lib.hid (HB.out.trans (hb1.mono HB.out.size)); clear hb1)
    go_wp2
    go_ret2
    exact ⟨rfl, HB.out⟩
  | true =>
    have I := Lib.hid (fun g T W h => is3_b a b c d e f true ht g T W h)
    rw [show dF true a b c d e f = a * d + b * e + c * f from rfl, show rE true = 0 from rfl]
    rw [Bool.and_eq_true, n3_iff, n3_iff] at ht
    have S3 := dS_3 a b c d e f
    have BD := Lib.hid (dS_bd ht.1.1 ht.1.2.1 ht.1.2.2 ht.2.1 ht.2.2.1 ht.2.2.2)
    have PD := Lib.hid (fun k => near_prod (pt_near ht.1.1 ht.1.2.1 ht.1.2.2 k) (pt_near ht.2.1 ht.2.2.1 ht.2.2.2 k))
    rw [← S3]
    have P1 := Lib.hid (fun W => parts_any a b c W)
    have P2 := Lib.hid (fun W => parts_any d e f W)
    clear ht S3
    go_enter Try.func8, Try.ntmps8
    go_upto_region 1 with fail
    have hbx := below_new1 w (.cells #[.int .i64 a, .int .i64 b, .int .i64 c] 23)
    have zx : (w.alloc (.cells #[.int .i64 a, .int .i64 b, .int .i64 c] 23)).heap.size = w.heap.size + 1 := by simp
    have HB := Lib.hid hbx
    have kx := Lib.hid (Lok.new w 23 #[.int .i64 a, .int .i64 b, .int .i64 c])
    clear hbx
    generalize w.alloc (.cells #[.int .i64 a, .int .i64 b, .int .i64 c] 23) = Vx at *
    have hby := below_new1 Vx (.cells #[.int .i64 d, .int .i64 e, .int .i64 f] 23)
    replace kx := Lib.hid (kx.out.keep hby)
    have zy : (Vx.alloc (.cells #[.int .i64 d, .int .i64 e, .int .i64 f] 23)).heap.size = Vx.heap.size + 1 := by simp
    replace HB := Lib.hid (HB.out.trans (hby.mono HB.out.size))
    have ky := Lib.hid (Lok.new Vx 23 #[.int .i64 d, .int .i64 e, .int .i64 f])
    clear hby
    generalize Vx.alloc (.cells #[.int .i64 d, .int .i64 e, .int .i64 f] 23) = Vy at *
    rw [zx] at ky
    clear zx zy
    have x0 := kx.out.cell (i := 0) rfl
    have x1 := kx.out.cell (i := 1) rfl
    have x2 := kx.out.cell (i := 2) rfl
    have y0 := ky.out.cell (i := 0) rfl
    have y1 := ky.out.cell (i := 1) rfl
    have y2 := ky.out.cell (i := 2) rfl
    go_wp2_with fail
    clear x0 x1 x2 y0 y1 y2
    have hbr := below_new1 Vy (.cells #[.int .i64 a, .int .i64 b, .int .i64 c, .int .i64 d, .int .i64 e, .int .i64 f] 23)
    replace kx := Lib.hid (kx.out.keep hbr)
    replace ky := Lib.hid (ky.out.keep hbr)
    have zr : (Vy.alloc (.cells #[.int .i64 a, .int .i64 b, .int .i64 c, .int .i64 d, .int .i64 e, .int .i64 f] 23)).heap.size = Vy.heap.size + 1 := by simp
    replace HB := Lib.hid (HB.out.trans (hbr.mono HB.out.size))
    have kr := Lib.hid (Lok.new Vy 23 #[.int .i64 a, .int .i64 b, .int .i64 c, .int .i64 d, .int .i64 e, .int .i64 f])
    clear hbr
    generalize Vy.alloc (.cells #[.int .i64 a, .int .i64 b, .int .i64 c, .int .i64 d, .int .i64 e, .int .i64 f] 23) = Vr at *
    clear zr
    generalize Vy.heap.size = gr at *
    (((with_reducible refine (I.out _ _ _ kr.out).mono ?_); rintro e w1 ⟨rfl, hb1⟩); replace HB := Lib.hid (HB.out.trans (hb1.mono HB.out.size)); replace kx := Lib.hid (kx.out.keep hb1); replace ky := Lib.hid (ky.out.keep hb1); clear hb1)
    have x0 := kx.out.cell (i := 0) rfl
    have x1 := kx.out.cell (i := 1) rfl
    have x2 := kx.out.cell (i := 2) rfl
    have y0 := ky.out.cell (i := 0) rfl
    have y1 := ky.out.cell (i := 1) rfl
    have y2 := ky.out.cell (i := 2) rfl
    clear kr
    go_upto_region 3 with fail
    refine wp_region_rel (by kernel_rfl) [6, 7, 15, 16, 17, 18] ?Fr1 ?hFr1
      (fun L u W => Below w1.heap.size w1 W ∧ (L 0 = true → u 15 = .agg #[.int .i64 a, .int .i64 b, .int .i64 c]) ∧ (L 1 = true → u 16 = .agg #[.int .i64 a, .int .i64 b, .int .i64 c]) ∧ (L 2 = true → u 17 = .agg #[.int .i64 d, .int .i64 e, .int .i64 f]) ∧ (L 3 = true → u 18 = .agg #[.int .i64 d, .int .i64 e, .int .i64 f]) ∧ (L 4 = true → ∃ (g : Nat) (x4_0 x4_1 x4_2 : Value), u 6 = .pointer (some ⟨g, 0, none⟩) ∧ w1.heap.size ≤ g ∧ Lok W g 46 #[x4_0, x4_1, x4_2] ∧ (L 6 = true → x4_0 = .int .i64 a ∧ x4_1 = .int .i64 b ∧ x4_2 = .int .i64 c)) ∧ (L 6 = true → L 4 = true) ∧ (L 5 = true → ∃ (g : Nat) (x5_0 x5_1 x5_2 : Value), u 7 = .pointer (some ⟨g, 0, none⟩) ∧ w1.heap.size ≤ g ∧ Lok W g 46 #[x5_0, x5_1, x5_2] ∧ (L 7 = true → x5_0 = .int .i64 d ∧ x5_1 = .int .i64 e ∧ x5_2 = .int .i64 f)) ∧ (L 7 = true → L 5 = true) ∧ (L 4 = true → L 5 = true → u 6 ≠ u 7)) (by kernel_rfl) (by kernel_rfl) 8 rfl ?h0r1 ?stepr1 ?finr1
    case hFr1 => intro u; simp only [putAll, Act.put, List.setIfInBounds_toArray, List.set]; exact rfl
    case h0r1 => intro L u hL; exact ⟨(Below.refl _ _).drew, (fun h => by simp [hL] at h), (fun h => by simp [hL] at h), (fun h => by simp [hL] at h), (fun h => by simp [hL] at h), (fun h => by simp [hL] at h), (fun h => by simp [hL] at h), (fun h => by simp [hL] at h), (fun h => by simp [hL] at h), (fun h => by simp [hL] at h)⟩
    case stepr1 =>
      refine ops_all (ops_cons ?s0r1 (ops_cons ?s1r1 (ops_cons ?s2r1 (ops_cons ?s3r1 (ops_cons ?s4r1 (ops_cons ?s5r1 (ops_cons ?s6r1 (ops_cons ?s7r1 (ops_nil)))))))))
      case s0r1 =>
        rintro L u W ⟨hB, c0, c1, c2, c3, c4, d6, c5, d7, y4_5⟩ hf hd K hK
        dsimp only at hK
        have t0 := keepc hB x0
        have t1 := keepc hB x1
        have t2 := keepc hB x2
        clear hd
        go_simp
        refine hK _ _ ?_ (fun h => by cases h)
        intro s hs
        cases hs
        exact ⟨hB, (fun _ => rfl), c1, c2, c3, c4, d6, c5, d7, y4_5⟩
      case s1r1 =>
        rintro L u W ⟨hB, c0, c1, c2, c3, c4, d6, c5, d7, y4_5⟩ hf hd K hK
        dsimp only at hK
        have hd0 : L 0 = true := (by first | (refine hd ⟨0, .data⟩ ?_ rfl; simp; done) | (refine hd ⟨0, .guard⟩ ?_ rfl; simp; done) | (refine hd ⟨0, .phase⟩ ?_ rfl; simp; done) | (refine hd ⟨0, .chain⟩ ?_ rfl; simp; done))
        have e0 := c0 hd0
        rw [e0] at hK
        clear hd0
        clear hd
        go_simp
        go_wp2_with (go_at_call 29; ((with_reducible refine (P1.out _).mono ?_); rintro e w5 ⟨rfl, hb⟩))
        refine hK _ _ ?_ (fun h => by cases h)
        intro s hs
        cases hs
        exact ⟨hB.trans (hb.mono hB.size), c0, (fun _ => rfl), c2, c3, (fun h => by obtain ⟨g, x4_0, x4_1, x4_2, k1, k2, k3, k4⟩ := c4 h; exact ⟨g, x4_0, x4_1, x4_2, k1, k2, k3.keep hb, k4⟩), d6, (fun h => by obtain ⟨g, x5_0, x5_1, x5_2, k1, k2, k3, k4⟩ := c5 h; exact ⟨g, x5_0, x5_1, x5_2, k1, k2, k3.keep hb, k4⟩), d7, y4_5⟩
      case s2r1 =>
        rintro L u W ⟨hB, c0, c1, c2, c3, c4, d6, c5, d7, y4_5⟩ hf hd K hK
        dsimp only at hK
        have t0 := keepc hB y0
        have t1 := keepc hB y1
        have t2 := keepc hB y2
        clear hd
        go_simp
        refine hK _ _ ?_ (fun h => by cases h)
        intro s hs
        cases hs
        exact ⟨hB, c0, c1, (fun _ => rfl), c3, c4, d6, c5, d7, y4_5⟩
      case s3r1 =>
        rintro L u W ⟨hB, c0, c1, c2, c3, c4, d6, c5, d7, y4_5⟩ hf hd K hK
        dsimp only at hK
        have hd2 : L 2 = true := (by first | (refine hd ⟨2, .data⟩ ?_ rfl; simp; done) | (refine hd ⟨2, .guard⟩ ?_ rfl; simp; done) | (refine hd ⟨2, .phase⟩ ?_ rfl; simp; done) | (refine hd ⟨2, .chain⟩ ?_ rfl; simp; done))
        have e2 := c2 hd2
        rw [e2] at hK
        clear hd2
        clear hd
        go_simp
        go_wp2_with (go_at_call 29; ((with_reducible refine (P2.out _).mono ?_); rintro e w5 ⟨rfl, hb⟩))
        refine hK _ _ ?_ (fun h => by cases h)
        intro s hs
        cases hs
        exact ⟨hB.trans (hb.mono hB.size), c0, c1, c2, (fun _ => rfl), (fun h => by obtain ⟨g, x4_0, x4_1, x4_2, k1, k2, k3, k4⟩ := c4 h; exact ⟨g, x4_0, x4_1, x4_2, k1, k2, k3.keep hb, k4⟩), d6, (fun h => by obtain ⟨g, x5_0, x5_1, x5_2, k1, k2, k3, k4⟩ := c5 h; exact ⟨g, x5_0, x5_1, x5_2, k1, k2, k3.keep hb, k4⟩), d7, y4_5⟩
      case s4r1 =>
        rintro L u W ⟨hB, c0, c1, c2, c3, c4, d6, c5, d7, y4_5⟩ hf hd K hK
        dsimp only at hK
        go_simp
        have hb : Below W.heap.size W (W.alloc (.cells #[.int .i64 0, .int .i64 0, .int .i64 0] 46)) := (Below.refl _ W).alloc (Nat.le_refl _) _
        refine hK _ _ ?_ (fun h => by cases h)
        intro s hs
        cases hs
        exact ⟨hB.trans (hb.mono hB.size), c0, c1, c2, c3, (fun _ => ⟨_, _, _, _, rfl, hB.size, Lok.new _ _ _, fun h => absurd (d6 h) (by rw [hf]; decide)⟩), (fun _ => rfl), (fun h => by obtain ⟨g, x5_0, x5_1, x5_2, k1, k2, k3, k4⟩ := c5 h; exact ⟨g, x5_0, x5_1, x5_2, k1, k2, k3.keep hb, k4⟩), d7, (fun _ h => by obtain ⟨g, x5_0, x5_1, x5_2, k1, k2, k3, k4⟩ := c5 h; exact ptr_new k1 k3)⟩
      case s5r1 =>
        rintro L u W ⟨hB, c0, c1, c2, c3, c4, d6, c5, d7, y4_5⟩ hf hd K hK
        dsimp only at hK
        go_simp
        have hb : Below W.heap.size W (W.alloc (.cells #[.int .i64 0, .int .i64 0, .int .i64 0] 46)) := (Below.refl _ W).alloc (Nat.le_refl _) _
        refine hK _ _ ?_ (fun h => by cases h)
        intro s hs
        cases hs
        exact ⟨hB.trans (hb.mono hB.size), c0, c1, c2, c3, (fun h => by obtain ⟨g, x4_0, x4_1, x4_2, k1, k2, k3, k4⟩ := c4 h; exact ⟨g, x4_0, x4_1, x4_2, k1, k2, k3.keep hb, k4⟩), d6, (fun _ => ⟨_, _, _, _, rfl, hB.size, Lok.new _ _ _, fun h => absurd (d7 h) (by rw [hf]; decide)⟩), (fun _ => rfl), (fun h _ => by obtain ⟨g, x4_0, x4_1, x4_2, k1, k2, k3, k4⟩ := c4 h; exact ptr_new2 k1 k3)⟩
      case s6r1 =>
        rintro L u W ⟨hB, c0, c1, c2, c3, c4, d6, c5, d7, y4_5⟩ hf hd K hK
        dsimp only at hK
        have hd4 : L 4 = true := hd ⟨4, .data⟩ (by simp) rfl
        have hd1 : L 1 = true := (by first | (refine hd ⟨1, .data⟩ ?_ rfl; simp; done) | (refine hd ⟨1, .guard⟩ ?_ rfl; simp; done) | (refine hd ⟨1, .phase⟩ ?_ rfl; simp; done) | (refine hd ⟨1, .chain⟩ ?_ rfl; simp; done))
        obtain ⟨g, x4_0, x4_1, x4_2, e4, k2, k3, k4⟩ := c4 hd4
        rw [e4] at hK
        have e1 := c1 hd1
        rw [e1] at hK
        have t0 := k3.cell (i := 0) rfl
        have f0 := k3.frozen 0
        have t1 := k3.cell (i := 1) rfl
        have f1 := k3.frozen 1
        have t2 := k3.cell (i := 2) rfl
        have f2 := k3.frozen 2
        have HH := Lib.hid (And.intro trivial trivial)
        clear hd
        have hd4' := Lib.hid hd4
        clear hd4
        have hd1' := Lib.hid hd1
        clear hd1
        go_simp
        have hd4 := hd4'.out
        have hd1 := hd1'.out
        have hlok := ((k3.set (i := 0) (v := .int .i64 a)).set (i := 1) (v := .int .i64 b)).set (i := 2) (v := .int .i64 c)
        refine hK undef _ (fun s h => by cases h) (fun _ => ?_)
        exact ⟨((hB.setCell k2 _).setCell k2 _).setCell k2 _, c0, (fun _ => rfl), c2, c3, (fun _ => ⟨g, _, _, _, rfl, k2, hlok, fun _ => ⟨rfl, rfl, rfl⟩⟩), (fun _ => hd4), (fun h => by obtain ⟨g2, x5_0, x5_1, x5_2, m1, m2, m3, m4⟩ := c5 h; have hne := ptr_apart (y4_5 hd4 h) e4 m1; exact ⟨g2, x5_0, x5_1, x5_2, m1, m2, ((m3.far hne).far hne).far hne, m4⟩), d7, (fun h1 h2 => by first | exact y4_5 h1 h2 | (rw [← e4]; exact y4_5 h1 h2))⟩
      case s7r1 =>
        rintro L u W ⟨hB, c0, c1, c2, c3, c4, d6, c5, d7, y4_5⟩ hf hd K hK
        dsimp only at hK
        have hd5 : L 5 = true := hd ⟨5, .data⟩ (by simp) rfl
        have hd3 : L 3 = true := (by first | (refine hd ⟨3, .data⟩ ?_ rfl; simp; done) | (refine hd ⟨3, .guard⟩ ?_ rfl; simp; done) | (refine hd ⟨3, .phase⟩ ?_ rfl; simp; done) | (refine hd ⟨3, .chain⟩ ?_ rfl; simp; done))
        obtain ⟨g, x5_0, x5_1, x5_2, e5, k2, k3, k4⟩ := c5 hd5
        rw [e5] at hK
        have e3 := c3 hd3
        rw [e3] at hK
        have t0 := k3.cell (i := 0) rfl
        have f0 := k3.frozen 0
        have t1 := k3.cell (i := 1) rfl
        have f1 := k3.frozen 1
        have t2 := k3.cell (i := 2) rfl
        have f2 := k3.frozen 2
        have HH := Lib.hid (And.intro trivial trivial)
        clear hd
        have hd5' := Lib.hid hd5
        clear hd5
        have hd3' := Lib.hid hd3
        clear hd3
        go_simp
        have hd5 := hd5'.out
        have hd3 := hd3'.out
        have hlok := ((k3.set (i := 0) (v := .int .i64 d)).set (i := 1) (v := .int .i64 e)).set (i := 2) (v := .int .i64 f)
        refine hK undef _ (fun s h => by cases h) (fun _ => ?_)
        exact ⟨((hB.setCell k2 _).setCell k2 _).setCell k2 _, c0, c1, c2, (fun _ => rfl), (fun h => by obtain ⟨g2, x4_0, x4_1, x4_2, m1, m2, m3, m4⟩ := c4 h; have hne := ptr_apart2 (y4_5 h hd5) m1 e5; exact ⟨g2, x4_0, x4_1, x4_2, m1, m2, ((m3.far hne).far hne).far hne, m4⟩), d6, (fun _ => ⟨g, _, _, _, rfl, k2, hlok, fun _ => ⟨rfl, rfl, rfl⟩⟩), (fun _ => hd5), (fun h1 h2 => by first | exact y4_5 h1 h2 | (rw [← e5]; exact y4_5 h1 h2))⟩
    case finr1 =>
      rintro L u W hL ⟨hB, c0, c1, c2, c3, c4, d6, c5, d7, y4_5⟩
      have e0 := c0 (hL 0 (by decide))
      have e1 := c1 (hL 1 (by decide))
      have e2 := c2 (hL 2 (by decide))
      have e3 := c3 (hL 3 (by decide))
      obtain ⟨g4, x4_0, x4_1, x4_2, e4, hg4, hlok4, hst4⟩ := c4 (hL 4 (by decide))
      obtain ⟨rfl, rfl, rfl⟩ := hst4 (hL 6 (by decide))
      clear hst4
      obtain ⟨g5, x5_0, x5_1, x5_2, e5, hg5, hlok5, hst5⟩ := c5 (hL 5 (by decide))
      obtain ⟨rfl, rfl, rfl⟩ := hst5 (hL 7 (by decide))
      clear hst5
      clear hL c0 c1 c2 c3 c4 d6 c5 d7 y4_5
      try simp only [e0, e1, e2, e3, e4, e5]
      clear e0 e1 e2 e3 e4 e5
      replace HB := Lib.hid (HB.out.trans (hB.mono HB.out.size))
      have K4 := Lib.hid hlok4
      have K5 := Lib.hid hlok5
      clear hB hlok4 hlok5 x0 x1 x2 y0 y1 y2 kx ky I P1 P2 hg4 hg5
      go_wp2_with fail
      go_loopw [8, 19] (fun x y wr => ∃ k : Nat, x = .int .i64 (dS a b c d e f k) ∧ y = .int .i64 k ∧ k ≤ 3 ∧ Below W.heap.size W wr) (fun _ y _ => 3 - (intOf y).toNat)
      case atStart => exact ⟨0, rfl, rfl, Nat.zero_le _, Below.refl _ _⟩
      case round =>
        obtain ⟨k, rfl, rfl, hk, hB⟩ := hrel
        have B := Lib.hid hB
        clear hB
        by_cases hlt : k < 3
        · have c0 := (K4.out.keep B.out).cell (pt_at a b c hlt)
          have c1 := (K5.out.keep B.out).cell (pt_at d e f hlt)
          have s := BD.out k
          have p := PD.out k
          have E : dS a b c d e f (k + 1) = dS a b c d e f k + pt a b c k * pt d e f k := rfl
          have e1 : IntKind.i64.wrap (pt a b c k * pt d e f k) = pt a b c k * pt d e f k := IntWalk.i64_in _ (by omega)
          have e2 : IntKind.i64.wrap (dS a b c d e f k + pt a b c k * pt d e f k) = dS a b c d e f (k + 1) := by rw [E]; exact IntWalk.i64_in _ (by omega)
          clear s p E
          generalize pt a b c k = x at *
          generalize pt d e f k = y at *
          generalize dS a b c d e f k = s at *
          obtain ⟨s', hs'⟩ : ∃ s', s' = dS a b c d e f (k + 1) := ⟨_, rfl⟩
          rw [← hs'] at e2
          have HS := Lib.hid hs'
          clear hs'
          have i0 : (0 : Int) ≤ (k : Int) := by omega
          have i1 : (k : Int) < 3 := by omega
          have i2 : ((k : Int)).toNat = k := by omega
          go_wp2_with fail
          go_region
          go_wp2_with fail
          exact ⟨⟨k + 1, by rw [HS.out], by go_num, hlt, B.out.drew⟩, by simp [intOf]; omega⟩
        · obtain rfl : k = 3 := by omega
          go_wp2
          go_ret2
          exact ⟨rfl, HB.out.trans (B.out.mono HB.out.size)⟩
end Go.Proofs.Ytmejipfejdckiaa
