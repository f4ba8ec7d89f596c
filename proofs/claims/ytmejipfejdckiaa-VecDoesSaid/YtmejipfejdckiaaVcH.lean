/-
  Contracts of Go's library and of package vec: slices.Compare of two rows of three ints, Less3.
-/
import Derived.Test.YtmejipfejdckiaaVcG
namespace Go.Proofs.Ytmejipfejdckiaa
open Go.RowKit

/-- How two points stand, by their first parts that differ. -/
def lx3 (a b c d e f : Int) : Int := or3 (ordI a d) (ordI b e) (ordI c f)
def oA (a b c d e f : Int) (k : Nat) : Int := ordI (pt a b c k) (pt d e f k)
theorem lx3_at {a b c d e f : Int} {k : Nat} (hk : k < 3) (h : ∀ j, j < k → oA a b c d e f j = 0) (n : oA a b c d e f k ≠ 0) : lx3 a b c d e f = oA a b c d e f k := by
  unfold lx3
  rcases show k = 0 ∨ k = 1 ∨ k = 2 by omega with rfl | rfl | rfl
  · exact or3_1 _ _ n
  · have h0 : ordI a d = 0 := h 0 (by omega)
    rw [h0]; exact or3_2 _ n
  · have h0 : ordI a d = 0 := h 0 (by omega)
    have h1 : ordI b e = 0 := h 1 (by omega)
    rw [h0, h1]; exact or3_3 _
theorem lx3_none {a b c d e f : Int} (h : ∀ j, j < 3 → oA a b c d e f j = 0) : lx3 a b c d e f = 0 := by
  have h0 : ordI a d = 0 := h 0 (by omega)
  have h1 : ordI b e = 0 := h 1 (by omega)
  have h2 : ordI c f = 0 := h 2 (by omega)
  unfold lx3
  rw [h0, h1, h2]; rfl
def ls3 (a b c d e f : Int) : Bool := decide (a < d ∨ (a = d ∧ (b < e ∨ (b = e ∧ c < f))))
theorem lx3_neg (a b c d e f : Int) : decide (lx3 a b c d e f < 0) = ls3 a b c d e f := by
  unfold ls3
  rw [decide_eq_decide]
  unfold lx3
  rcases ordI_ways a d with ⟨h, e1⟩ | ⟨h, e1⟩ | ⟨h, e1⟩ <;> rw [e1]
  · rw [or3_1 _ _ (by omega)]; omega
  · rcases ordI_ways b e with ⟨k, e2⟩ | ⟨k, e2⟩ | ⟨k, e2⟩ <;> rw [e2]
    · rw [or3_2 _ (by omega)]; omega
    · rw [or3_3]; rcases ordI_ways c f with ⟨l, e3⟩ | ⟨l, e3⟩ | ⟨l, e3⟩ <;> rw [e3] <;> omega
    · rw [or3_2 _ (by omega)]; omega
  · rw [or3_1 _ _ (by omega)]; omega

set_option maxRecDepth 100000 in
set_option maxHeartbeats 2000000 in
theorem scmp3_any (a b c d e f : Int) (g h p q : Nat) (T U : TypeId) (w : World) (hg : Lok w g T #[.int .i64 a, .int .i64 b, .int .i64 c]) (hh : Lok w h U #[.int .i64 d, .int .i64 e, .int .i64 f]) :
    Calls Try.prog 34 #[.slice (some ⟨g, 0, none⟩) 3 p, .slice (some ⟨h, 0, none⟩) 3 q] w fun e' w' => e' = .returned (.int .i64 (lx3 a b c d e f)) ∧ Below w.heap.size w w' := by
  have G := Lib.hid hg
  have H := Lib.hid hh
  clear hg hh
  go_enter Try.func34, Try.ntmps34
  go_wp2_with fail
  go_loopw [11] (fun x wr => ∃ k : Nat, x = .int .i64 k ∧ k ≤ 3 ∧ (∀ j, j < k → oA a b c d e f j = 0) ∧ Below w.heap.size w wr) (fun x _ => 3 - (intOf x).toNat)
  case atStart => exact ⟨0, rfl, Nat.zero_le _, fun j h => absurd h (by omega), by (repeat (first | exact Below.refl _ _ | assumption | refine Below.drew ?_ | refine below_drewN ?_ _ | refine Below.setCell ?_ (by first | omega | (simp; done) | (simp; omega)) _ | refine Below.alloc ?_ (by first | omega | (simp; done) | (simp; omega)) _))⟩
  case round =>
    obtain ⟨k, rfl, hk, hR, hB⟩ := hrel
    have HB := Lib.hid hB
    by_cases hlt : k < 3
    · have c0 := (G.out.keep hB).cell (pt_at a b c hlt)
      have c1 := (H.out.keep hB).cell (pt_at d e f hlt)
      have AT := Lib.hid (fun n => lx3_at hlt hR n)
      have GO : oA a b c d e f k = 0 → ∀ j, j < k + 1 → oA a b c d e f j = 0 := fun z j hj => if h : j = k then by rw [h]; exact z else hR j (by omega)
      have GO := Lib.hid GO
      have C := Lib.hid (fun W => compare_int (pt a b c k) (pt d e f k) W)
      change Hid (∀ W, Calls Try.prog 37 #[.int .i64 (pt a b c k), .int .i64 (pt d e f k)] W fun e' w' => e' = .returned (.int .i64 (oA a b c d e f k)) ∧ Below W.heap.size W w') at C
      clear hB hR
      generalize oA a b c d e f k = z at *
      generalize pt a b c k = x at *
      generalize pt d e f k = y at *
      have i0 : (0 : Int) ≤ (k : Int) := by omega
      have i1 : (k : Int) < 3 := by omega
      have i2 : ((k : Int)).toNat = k := by omega
      go_wp2_with fail
      clear c0 c1
      (((with_reducible refine (C.out _).mono ?_); rintro e w1 ⟨rfl, hb1⟩); replace HB := Lib.hid (HB.out.trans (hb1.mono HB.out.size)); clear hb1)
      by_cases n : z = 0
      · subst n
        have E := Lib.hid (GO.out rfl)
        clear AT GO C
        go_wp2
        go_roundw
        case rel => exact ⟨k + 1, by go_num, hlt, E.out, HB.out⟩
        case measure => simp [intOf]; omega
      · have E := Lib.hid (AT.out n)
        have nz : (z != 0) = true := by rw [bne_iff_ne]; exact n
        have nz2 : (z == 0) = false := by rw [beq_eq_false_iff_ne]; exact n
        clear AT GO C
        go_wp2
        go_ret
        exact ⟨by rw [E.out]; rfl, HB.out⟩
    · obtain rfl : k = 3 := by omega
      have E := lx3_none hR
      go_wp2
      go_ret
      exact ⟨by rw [E]; rfl, hB⟩

set_option maxRecDepth 100000 in
set_option maxHeartbeats 2000000 in
theorem less3_any (a b c d e f : Int) (w : World) :
    Calls Try.prog 22 #[.agg #[.int .i64 a, .int .i64 b, .int .i64 c], .agg #[.int .i64 d, .int .i64 e, .int .i64 f]] w fun e' w' => e' = .returned (.bool (ls3 a b c d e f)) ∧ Below w.heap.size w w' := by
  have HB := Lib.hid (Below.refl w.heap.size w)
  have P1 := Lib.hid (fun W => parts_any a b c W)
  have P2 := Lib.hid (fun W => parts_any d e f W)
  have S := Lib.hid (fun g h W k l => scmp3_any a b c d e f g h 3 3 46 46 W k l)
  rw [← lx3_neg]
  generalize lx3 a b c d e f = z at *
  go_enter Try.func22, Try.ntmps22
  go_upto_region 1 with fail
  have hbx := below_new1 w (.cells #[.int .i64 a, .int .i64 b, .int .i64 c] 23)
  have zx : (w.alloc (.cells #[.int .i64 a, .int .i64 b, .int .i64 c] 23)).heap.size = w.heap.size + 1 := by simp
  have HB := Lib.hid hbx
  have kx := Lib.hid (Lok.new w 23 #[.int .i64 a, .int .i64 b, .int .i64 c])
  clear hbx
  generalize w.alloc (.cells #[.int .i64 a, .int .i64 b, .int .i64 c] 23) = Vx at *
  have hby := below_new1 Vx (.cells #[.int .i64 d, .int .i64 e, .int .i64 f] 23)
  replace kx := Lib.hid (kx.out.keep hby)
  have zy : (Vx.alloc (.cells #[.int .i64 d, .int .i64 e, .int .i64 f] 23)).heap.size = Vx.heap.size + 1 := by simp
  replace HB := Lib.hid (HB.out.trans (hby.mono HB.out.size))
  have ky := Lib.hid (Lok.new Vx 23 #[.int .i64 d, .int .i64 e, .int .i64 f])
  clear hby
  generalize Vx.alloc (.cells #[.int .i64 d, .int .i64 e, .int .i64 f] 23) = Vy at *
  rw [zx] at ky
  clear zx zy
  have x0 := kx.out.cell (i := 0) rfl
  have x1 := kx.out.cell (i := 1) rfl
  have x2 := kx.out.cell (i := 2) rfl
  have y0 := ky.out.cell (i := 0) rfl
  have y1 := ky.out.cell (i := 1) rfl
  have y2 := ky.out.cell (i := 2) rfl
  generalize Vy = w1 at *
  refine wp_region_rel (by kernel_rfl) [5, 6, 7, 8, 9, 10] ?Fr1 ?hFr1
    (fun L u W => Below w1.heap.size w1 W ∧ (L 0 = true → u 7 = .agg #[.int .i64 a, .int .i64 b, .int .i64 c]) ∧ (L 1 = true → u 8 = .agg #[.int .i64 a, .int .i64 b, .int .i64 c]) ∧ (L 2 = true → u 9 = .agg #[.int .i64 d, .int .i64 e, .int .i64 f]) ∧ (L 3 = true → u 10 = .agg #[.int .i64 d, .int .i64 e, .int .i64 f]) ∧ (L 4 = true → ∃ (g : Nat) (x4_0 x4_1 x4_2 : Value), u 5 = .pointer (some ⟨g, 0, none⟩) ∧ w1.heap.size ≤ g ∧ Lok W g 46 #[x4_0, x4_1, x4_2] ∧ (L 6 = true → x4_0 = .int .i64 a ∧ x4_1 = .int .i64 b ∧ x4_2 = .int .i64 c)) ∧ (L 6 = true → L 4 = true) ∧ (L 5 = true → ∃ (g : Nat) (x5_0 x5_1 x5_2 : Value), u 6 = .pointer (some ⟨g, 0, none⟩) ∧ w1.heap.size ≤ g ∧ Lok W g 46 #[x5_0, x5_1, x5_2] ∧ (L 7 = true → x5_0 = .int .i64 d ∧ x5_1 = .int .i64 e ∧ x5_2 = .int .i64 f)) ∧ (L 7 = true → L 5 = true) ∧ (L 4 = true → L 5 = true → u 5 ≠ u 6)) (by kernel_rfl) (by kernel_rfl) 8 rfl ?h0r1 ?stepr1 ?finr1
  case hFr1 => intro u; simp only [putAll, Act.put, List.setIfInBounds_toArray, List.set]; exact rfl
  case h0r1 => intro L u hL; exact ⟨(Below.refl _ _).drew, (fun h => by simp [hL] at h), (fun h => by simp [hL] at h), (fun h => by simp [hL] at h), (fun h => by simp [hL] at h), (fun h => by simp [hL] at h), (fun h => by simp [hL] at h), (fun h => by simp [hL] at h), (fun h => by simp [hL] at h), (fun h => by simp [hL] at h)⟩
  case stepr1 =>
    refine ops_all (ops_cons ?s0r1 (ops_cons ?s1r1 (ops_cons ?s2r1 (ops_cons ?s3r1 (ops_cons ?s4r1 (ops_cons ?s5r1 (ops_cons ?s6r1 (ops_cons ?s7r1 (ops_nil)))))))))
    case s0r1 =>
      rintro L u W ⟨hB, c0, c1, c2, c3, c4, d6, c5, d7, y4_5⟩ hf hd K hK
      dsimp only at hK
      have t0 := keepc hB x0
      have t1 := keepc hB x1
      have t2 := keepc hB x2
      clear hd
      go_simp
      refine hK _ _ ?_ (fun h => by cases h)
      intro s hs
      cases hs
      exact ⟨hB, (fun _ => rfl), c1, c2, c3, c4, d6, c5, d7, y4_5⟩
    case s1r1 =>
      rintro L u W ⟨hB, c0, c1, c2, c3, c4, d6, c5, d7, y4_5⟩ hf hd K hK
      dsimp only at hK
      have hd0 : L 0 = true := (by first | (refine hd ⟨0, .data⟩ ?_ rfl; simp; done) | (refine hd ⟨0, .guard⟩ ?_ rfl; simp; done) | (refine hd ⟨0, .phase⟩ ?_ rfl; simp; done) | (refine hd ⟨0, .chain⟩ ?_ rfl; simp; done))
      have e0 := c0 hd0
      rw [e0] at hK
      clear hd0
      clear hd
      go_simp
      go_wp2_with (go_at_call 29; ((with_reducible refine (P1.out _).mono ?_); rintro e w5 ⟨rfl, hb⟩))
      refine hK _ _ ?_ (fun h => by cases h)
      intro s hs
      cases hs
      exact ⟨hB.trans (hb.mono hB.size), c0, (fun _ => rfl), c2, c3, (fun h => by obtain ⟨g, x4_0, x4_1, x4_2, k1, k2, k3, k4⟩ := c4 h; exact ⟨g, x4_0, x4_1, x4_2, k1, k2, k3.keep hb, k4⟩), d6, (fun h => by obtain ⟨g, x5_0, x5_1, x5_2, k1, k2, k3, k4⟩ := c5 h; exact ⟨g, x5_0, x5_1, x5_2, k1, k2, k3.keep hb, k4⟩), d7, y4_5⟩
    case s2r1 =>
      rintro L u W ⟨hB, c0, c1, c2, c3, c4, d6, c5, d7, y4_5⟩ hf hd K hK
      dsimp only at hK
      have t0 := keepc hB y0
      have t1 := keepc hB y1
      have t2 := keepc hB y2
      clear hd
      go_simp
      refine hK _ _ ?_ (fun h => by cases h)
      intro s hs
      cases hs
      exact ⟨hB, c0, c1, (fun _ => rfl), c3, c4, d6, c5, d7, y4_5⟩
    case s3r1 =>
      rintro L u W ⟨hB, c0, c1, c2, c3, c4, d6, c5, d7, y4_5⟩ hf hd K hK
      dsimp only at hK
      have hd2 : L 2 = true := (by first | (refine hd ⟨2, .data⟩ ?_ rfl; simp; done) | (refine hd ⟨2, .guard⟩ ?_ rfl; simp; done) | (refine hd ⟨2, .phase⟩ ?_ rfl; simp; done) | (refine hd ⟨2, .chain⟩ ?_ rfl; simp; done))
      have e2 := c2 hd2
      rw [e2] at hK
      clear hd2
      clear hd
      go_simp
      go_wp2_with (go_at_call 29; ((with_reducible refine (P2.out _).mono ?_); rintro e w5 ⟨rfl, hb⟩))
      refine hK _ _ ?_ (fun h => by cases h)
      intro s hs
      cases hs
      exact ⟨hB.trans (hb.mono hB.size), c0, c1, c2, (fun _ => rfl), (fun h => by obtain ⟨g, x4_0, x4_1, x4_2, k1, k2, k3, k4⟩ := c4 h; exact ⟨g, x4_0, x4_1, x4_2, k1, k2, k3.keep hb, k4⟩), d6, (fun h => by obtain ⟨g, x5_0, x5_1, x5_2, k1, k2, k3, k4⟩ := c5 h; exact ⟨g, x5_0, x5_1, x5_2, k1, k2, k3.keep hb, k4⟩), d7, y4_5⟩
    case s4r1 =>
      rintro L u W ⟨hB, c0, c1, c2, c3, c4, d6, c5, d7, y4_5⟩ hf hd K hK
      dsimp only at hK
      go_simp
      have hb : Below W.heap.size W (W.alloc (.cells #[.int .i64 0, .int .i64 0, .int .i64 0] 46)) := (Below.refl _ W).alloc (Nat.le_refl _) _
      refine hK _ _ ?_ (fun h => by cases h)
      intro s hs
      cases hs
      exact ⟨hB.trans (hb.mono hB.size), c0, c1, c2, c3, (fun _ => ⟨_, _, _, _, rfl, hB.size, Lok.new _ _ _, fun h => absurd (d6 h) (by rw [hf]; decide)⟩), (fun _ => rfl), (fun h => by obtain ⟨g, x5_0, x5_1, x5_2, k1, k2, k3, k4⟩ := c5 h; exact ⟨g, x5_0, x5_1, x5_2, k1, k2, k3.keep hb, k4⟩), d7, (fun _ h => by obtain ⟨g, x5_0, x5_1, x5_2, k1, k2, k3, k4⟩ := c5 h; exact ptr_new k1 k3)⟩
    case s5r1 =>
      rintro L u W ⟨hB, c0, c1, c2, c3, c4, d6, c5, d7, y4_5⟩ hf hd K hK
      dsimp only at hK
      go_simp
      have hb : Below W.heap.size W (W.alloc (.cells #[.int .i64 0, .int .i64 0, .int .i64 0] 46)) := (Below.refl _ W).alloc (Nat.le_refl _) _
      refine hK _ _ ?_ (fun h => by cases h)
      intro s hs
      cases hs
      exact ⟨hB.trans (hb.mono hB.size), c0, c1, c2, c3, (fun h => by obtain ⟨g, x4_0, x4_1, x4_2, k1, k2, k3, k4⟩ := c4 h; exact ⟨g, x4_0, x4_1, x4_2, k1, k2, k3.keep hb, k4⟩), d6, (fun _ => ⟨_, _, _, _, rfl, hB.size, Lok.new _ _ _, fun h => absurd (d7 h) (by rw [hf]; decide)⟩), (fun _ => rfl), (fun h _ => by obtain ⟨g, x4_0, x4_1, x4_2, k1, k2, k3, k4⟩ := c4 h; exact ptr_new2 k1 k3)⟩
    case s6r1 =>
      rintro L u W ⟨hB, c0, c1, c2, c3, c4, d6, c5, d7, y4_5⟩ hf hd K hK
      dsimp only at hK
      have hd4 : L 4 = true := hd ⟨4, .data⟩ (by simp) rfl
      have hd1 : L 1 = true := (by first | (refine hd ⟨1, .data⟩ ?_ rfl; simp; done) | (refine hd ⟨1, .guard⟩ ?_ rfl; simp; done) | (refine hd ⟨1, .phase⟩ ?_ rfl; simp; done) | (refine hd ⟨1, .chain⟩ ?_ rfl; simp; done))
      obtain ⟨g, x4_0, x4_1, x4_2, e4, k2, k3, k4⟩ := c4 hd4
      rw [e4] at hK
      have e1 := c1 hd1
      rw [e1] at hK
      have t0 := k3.cell (i := 0) rfl
      have f0 := k3.frozen 0
      have t1 := k3.cell (i := 1) rfl
      have f1 := k3.frozen 1
      have t2 := k3.cell (i := 2) rfl
      have f2 := k3.frozen 2
      have HH := Lib.hid (And.intro trivial trivial)
      clear hd
      have hd4' := Lib.hid hd4
      clear hd4
      have hd1' := Lib.hid hd1
      clear hd1
      go_simp
      have hd4 := hd4'.out
      have hd1 := hd1'.out
      have hlok := ((k3.set (i := 0) (v := .int .i64 a)).set (i := 1) (v := .int .i64 b)).set (i := 2) (v := .int .i64 c)
      refine hK undef _ (fun s h => by cases h) (fun _ => ?_)
      exact ⟨((hB.setCell k2 _).setCell k2 _).setCell k2 _, c0, (fun _ => rfl), c2, c3, (fun _ => ⟨g, _, _, _, rfl, k2, hlok, fun _ => ⟨rfl, rfl, rfl⟩⟩), (fun _ => hd4), (fun h => by obtain ⟨g2, x5_0, x5_1, x5_2, m1, m2, m3, m4⟩ := c5 h; have hne := ptr_apart (y4_5 hd4 h) e4 m1; exact ⟨g2, x5_0, x5_1, x5_2, m1, m2, ((m3.far hne).far hne).far hne, m4⟩), d7, (fun h1 h2 => by first | exact y4_5 h1 h2 | (rw [← e4]; exact y4_5 h1 h2))⟩
    case s7r1 =>
      rintro L u W ⟨hB, c0, c1, c2, c3, c4, d6, c5, d7, y4_5⟩ hf hd K hK
      dsimp only at hK
      have hd5 : L 5 = true := hd ⟨5, .data⟩ (by simp) rfl
      have hd3 : L 3 = true := (by first | (refine hd ⟨3, .data⟩ ?_ rfl; simp; done) | (refine hd ⟨3, .guard⟩ ?_ rfl; simp; done) | (refine hd ⟨3, .phase⟩ ?_ rfl; simp; done) | (refine hd ⟨3, .chain⟩ ?_ rfl; simp; done))
      obtain ⟨g, x5_0, x5_1, x5_2, e5, k2, k3, k4⟩ := c5 hd5
      rw [e5] at hK
      have e3 := c3 hd3
      rw [e3] at hK
      have t0 := k3.cell (i := 0) rfl
      have f0 := k3.frozen 0
      have t1 := k3.cell (i := 1) rfl
      have f1 := k3.frozen 1
      have t2 := k3.cell (i := 2) rfl
      have f2 := k3.frozen 2
      have HH := Lib.hid (And.intro trivial trivial)
      clear hd
      have hd5' := Lib.hid hd5
      clear hd5
      have hd3' := Lib.hid hd3
      clear hd3
      go_simp
      have hd5 := hd5'.out
      have hd3 := hd3'.out
      have hlok := ((k3.set (i := 0) (v := .int .i64 d)).set (i := 1) (v := .int .i64 e)).set (i := 2) (v := .int .i64 f)
      refine hK undef _ (fun s h => by cases h) (fun _ => ?_)
      exact ⟨((hB.setCell k2 _).setCell k2 _).setCell k2 _, c0, c1, c2, (fun _ => rfl), (fun h => by obtain ⟨g2, x4_0, x4_1, x4_2, m1, m2, m3, m4⟩ := c4 h; have hne := ptr_apart2 (y4_5 h hd5) m1 e5; exact ⟨g2, x4_0, x4_1, x4_2, m1, m2, ((m3.far hne).far hne).far hne, m4⟩), d6, (fun _ => ⟨g, _, _, _, rfl, k2, hlok, fun _ => ⟨rfl, rfl, rfl⟩⟩), (fun _ => hd5), (fun h1 h2 => by first | exact y4_5 h1 h2 | (rw [← e5]; exact y4_5 h1 h2))⟩
  case finr1 =>
    rintro L u W hL ⟨hB, c0, c1, c2, c3, c4, d6, c5, d7, y4_5⟩
    have e0 := c0 (hL 0 (by decide))
    have e1 := c1 (hL 1 (by decide))
    have e2 := c2 (hL 2 (by decide))
    have e3 := c3 (hL 3 (by decide))
    obtain ⟨g4, x4_0, x4_1, x4_2, e4, hg4, hlok4, hst4⟩ := c4 (hL 4 (by decide))
    obtain ⟨rfl, rfl, rfl⟩ := hst4 (hL 6 (by decide))
    clear hst4
    obtain ⟨g5, x5_0, x5_1, x5_2, e5, hg5, hlok5, hst5⟩ := c5 (hL 5 (by decide))
    obtain ⟨rfl, rfl, rfl⟩ := hst5 (hL 7 (by decide))
    clear hst5
    clear hL c0 c1 c2 c3 c4 d6 c5 d7 y4_5
    try simp only [e0, e1, e2, e3, e4, e5]
    clear e0 e1 e2 e3 e4 e5
    replace HB := Lib.hid (HB.out.trans (hB.mono HB.out.size))
    have K4 := Lib.hid hlok4
    have K5 := Lib.hid hlok5
    clear hB hlok4 hlok5 x0 x1 x2 y0 y1 y2 kx ky P1 P2 hg4 hg5
    have c0 := K4.out.cell (i := 0) rfl
    have d0 := K5.out.cell (i := 0) rfl
    have ST := Lib.hid (pastV_stays W)
    have ne : Nonempty (Of (PastV W)) := ⟨⟨W, Below.refl _ _⟩⟩
    have S2 : ∀ D : Of (PastV W), Lok D.world g4 46 #[.int .i64 a, .int .i64 b, .int .i64 c] ∧ Lok D.world g5 46 #[.int .i64 d, .int .i64 e, .int .i64 f] := fun D => ⟨K4.out.keep D.holds, K5.out.keep D.holds⟩
    go_upto_region 2 with fail
    refine wp_region_class (S := PastV W) (by kernel_rfl) (by kernel_rfl) (Below.refl _ _).drew ?_
    repeat (go_big_quiet_step (first | (go_at_call 34; with_reducible exact class_call ST.out _ (S.out _ _ _ (S2 _).1 (S2 _).2))))
    refine wpQuiet_nil ?_
    rintro _ ⟨D, rfl⟩
    have HD := Lib.hid (HB.out.trans (show Below w.heap.size W D.world from (show Below W.heap.size W D.world from D.holds).mono HB.out.size))
    clear ne ST S2
    go_wp2
    go_ret
    exact ⟨rfl, HD.out⟩
end Go.Proofs.Ytmejipfejdckiaa
