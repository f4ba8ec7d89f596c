/-
  Contracts of package sign: the method of a triangle in space, Normal. (gen/SgC.py)
-/
import Derived.Test.YtfghjfgdjlkooaaSgA
import Derived.Test.YtfghjfgdjlkooaaVcF
import Derived.Test.YtfghjfgdjlkooaaVcR
namespace Go.Proofs.Ytfghjfgdjlkooaa
open Go.RowKit

theorem sub3_sm {a b c d e f : Int} (h : s3 a b c = true) (k : s3 d e f = true) (w : World) :
    Calls Try.prog 47 #[.agg #[.int .i64 d, .int .i64 e, .int .i64 f], .agg #[.int .i64 a, .int .i64 b, .int .i64 c]] w fun e' w' => e' = .returned (.agg #[.int .i64 (d - a), .int .i64 (e - b), .int .i64 (f - c)]) ∧ Below w.heap.size w w' := by
  have q := sub3_any d e f a b c w
  rw [n3_of h, n3_of k] at q
  exact q
theorem cross3_sm {a1 a2 a3 b1 b2 b3 c1 c2 c3 : Int} (ha : s3 a1 a2 a3 = true) (hb : s3 b1 b2 b3 = true) (hc : s3 c1 c2 c3 = true) (w : World) :
    Calls Try.prog 56 #[.agg #[.int .i64 (b1 - a1), .int .i64 (b2 - a2), .int .i64 (b3 - a3)], .agg #[.int .i64 (c1 - a1), .int .i64 (c2 - a2), .int .i64 (c3 - a3)]] w fun e w' => e = .returned (.tuple #[.agg #[.int .i64 (ar a2 a3 b2 b3 c2 c3), .int .i64 (ar a3 a1 b3 b1 c3 c1), .int .i64 (ar a1 a2 b1 b2 c1 c2)], .int .i64 0]) ∧ Below w.heap.size w w' := by
  have q := cross3_any (b1 - a1) (b2 - a2) (b3 - a3) (c1 - a1) (c2 - a2) (c3 - a3) w
  rw [n3_d ha hb, n3_d ha hc] at q
  exact q
set_option maxRecDepth 100000 in
set_option maxHeartbeats 4000000 in
theorem space_any (a1 a2 a3 b1 b2 b3 c1 c2 c3 : Int) (t : Bool) (ht : (s3 a1 a2 a3 && s3 b1 b2 b3 && s3 c1 c2 c3) = t) (w : World) :
    Calls Try.prog 45 #[.agg #[.int .i64 a1, .int .i64 a2, .int .i64 a3, .int .i64 b1, .int .i64 b2, .int .i64 b3, .int .i64 c1, .int .i64 c2, .int .i64 c3]] w fun e' w' => e' = .returned (.tuple #[.agg #[.int .i64 (vF t (ar a2 a3 b2 b3 c2 c3)), .int .i64 (vF t (ar a3 a1 b3 b1 c3 c1)), .int .i64 (vF t (ar a1 a2 b1 b2 c1 c2))], .int .i64 (rE t)]) ∧ Below w.heap.size w w' := by
  have HB := Lib.hid (Below.refl w.heap.size w)
  have S := Lib.hid (fun g T W h => small3_3 a1 a2 a3 b1 b2 b3 c1 c2 c3 t ht g T W h)
  cases t with
  | false =>
    rw [vF_no, vF_no, vF_no, show rE false = 5 from rfl]
    clear ht
    go_enter Try.func45, Try.ntmps45
    go_upto_region 1 with fail
    have hbx := below_new1 w (.cells #[.int .i64 a1, .int .i64 a2, .int .i64 a3, .int .i64 b1, .int .i64 b2, .int .i64 b3, .int .i64 c1, .int .i64 c2, .int .i64 c3] 75)
    have zx : (w.alloc (.cells #[.int .i64 a1, .int .i64 a2, .int .i64 a3, .int .i64 b1, .int .i64 b2, .int .i64 b3, .int .i64 c1, .int .i64 c2, .int .i64 c3] 75)).heap.size = w.heap.size + 1 := by simp
    have HB := Lib.hid hbx
    have kx := Lib.hid (Lok.new w 75 #[.int .i64 a1, .int .i64 a2, .int .i64 a3, .int .i64 b1, .int .i64 b2, .int .i64 b3, .int .i64 c1, .int .i64 c2, .int .i64 c3])
    clear hbx
    generalize w.alloc (.cells #[.int .i64 a1, .int .i64 a2, .int .i64 a3, .int .i64 b1, .int .i64 b2, .int .i64 b3, .int .i64 c1, .int .i64 c2, .int .i64 c3] 75) = Vx at *
    have hby := below_new1 Vx (.cells #[.int .i64 0, .int .i64 0, .int .i64 0] 23)
    replace kx := Lib.hid (kx.out.keep hby)
    have zy : (Vx.alloc (.cells #[.int .i64 0, .int .i64 0, .int .i64 0] 23)).heap.size = Vx.heap.size + 1 := by simp
    replace HB := Lib.hid (HB.out.trans (hby.mono HB.out.size))
    have ky := Lib.hid (Lok.new Vx 23 #[.int .i64 0, .int .i64 0, .int .i64 0])
    clear hby
    generalize Vx.alloc (.cells #[.int .i64 0, .int .i64 0, .int .i64 0] 23) = Vy at *
    rw [zx] at ky
    clear zx zy
    go_wp2_with fail
    (((with_reducible refine (S.out _ _ _ kx.out).mono ?_); rintro e w1 ⟨rfl, hb1⟩); replace HB := Lib.hid (HB.out.trans (hb1.mono HB.out.size)); replace kx := Lib.hid (kx.out.keep hb1); replace ky := Lib.hid (ky.out.keep hb1); clear hb1)
    have y0 := ky.out.cell (i := 0) rfl
    have y1 := ky.out.cell (i := 1) rfl
    have y2 := ky.out.cell (i := 2) rfl
    have fy0 := ky.out.frozen 0
    have fy1 := ky.out.frozen 1
    have fy2 := ky.out.frozen 2
    go_wp2_with fail
    exact bodyPost_ret (v := .tuple #[.agg #[.int .i64 0, .int .i64 0, .int .i64 0], .int .i64 5]) (by simp [results, Try.results45, go_sem, y0, y1, y2]) rfl ⟨rfl, ((HB.out.setCell (by simp <;> omega) _).setCell (by simp <;> omega) _).setCell (by simp <;> omega) _⟩
  | true =>
    rw [vF_yes, vF_yes, vF_yes, show rE true = 0 from rfl]
    rw [Bool.and_eq_true, Bool.and_eq_true] at ht
    obtain ⟨⟨ha, hb⟩, hc⟩ := ht
    have U1 := Lib.hid (fun W => sub3_sm ha hb W)
    have U2 := Lib.hid (fun W => sub3_sm ha hc W)
    have X := Lib.hid (fun W => cross3_sm ha hb hc W)
    generalize ar a2 a3 b2 b3 c2 c3 = n1 at *
    generalize ar a3 a1 b3 b1 c3 c1 = n2 at *
    generalize ar a1 a2 b1 b2 c1 c2 = n3 at *
    clear ha hb hc
    go_enter Try.func45, Try.ntmps45
    go_upto_region 1 with fail
    have hbx := below_new1 w (.cells #[.int .i64 a1, .int .i64 a2, .int .i64 a3, .int .i64 b1, .int .i64 b2, .int .i64 b3, .int .i64 c1, .int .i64 c2, .int .i64 c3] 75)
    have zx : (w.alloc (.cells #[.int .i64 a1, .int .i64 a2, .int .i64 a3, .int .i64 b1, .int .i64 b2, .int .i64 b3, .int .i64 c1, .int .i64 c2, .int .i64 c3] 75)).heap.size = w.heap.size + 1 := by simp
    have HB := Lib.hid hbx
    have kx := Lib.hid (Lok.new w 75 #[.int .i64 a1, .int .i64 a2, .int .i64 a3, .int .i64 b1, .int .i64 b2, .int .i64 b3, .int .i64 c1, .int .i64 c2, .int .i64 c3])
    clear hbx
    generalize w.alloc (.cells #[.int .i64 a1, .int .i64 a2, .int .i64 a3, .int .i64 b1, .int .i64 b2, .int .i64 b3, .int .i64 c1, .int .i64 c2, .int .i64 c3] 75) = Vx at *
    have hby := below_new1 Vx (.cells #[.int .i64 0, .int .i64 0, .int .i64 0] 23)
    replace kx := Lib.hid (kx.out.keep hby)
    have zy : (Vx.alloc (.cells #[.int .i64 0, .int .i64 0, .int .i64 0] 23)).heap.size = Vx.heap.size + 1 := by simp
    replace HB := Lib.hid (HB.out.trans (hby.mono HB.out.size))
    have ky := Lib.hid (Lok.new Vx 23 #[.int .i64 0, .int .i64 0, .int .i64 0])
    clear hby
    generalize Vx.alloc (.cells #[.int .i64 0, .int .i64 0, .int .i64 0] 23) = Vy at *
    rw [zx] at ky
    clear zx zy
    go_wp2_with fail
    (((with_reducible refine (S.out _ _ _ kx.out).mono ?_); rintro e w1 ⟨rfl, hb1⟩); replace HB := Lib.hid (HB.out.trans (hb1.mono HB.out.size)); replace kx := Lib.hid (kx.out.keep hb1); replace ky := Lib.hid (ky.out.keep hb1); clear hb1)
    clear S
    have hxy : w.heap.size < w.heap.size + 1 := Nat.lt_succ_self _
    have o13 := ky.out
    have hbound := Nat.le_of_lt ky.out.lt
    generalize w.heap.size + 1 = gy at *
    go_upto_region 3 with fail
    refine wp_region_rel (by kernel_rfl) [8, 9, 10, 11, 12, 13, 14, 15, 16, 17, 18, 19, 20, 3] ?Fr1 ?hFr1
      (fun L u W => Below gy w1 W ∧ (L 0 = true → u 8 = .pointer (some ⟨w.heap.size, 3, none⟩)) ∧ (L 1 = true → u 9 = .agg #[.int .i64 b1, .int .i64 b2, .int .i64 b3]) ∧ (L 2 = true → u 10 = .pointer (some ⟨w.heap.size, 0, none⟩)) ∧ (L 3 = true → u 11 = .agg #[.int .i64 a1, .int .i64 a2, .int .i64 a3]) ∧ (L 4 = true → u 12 = .agg #[.int .i64 (b1 - a1), .int .i64 (b2 - a2), .int .i64 (b3 - a3)]) ∧ (L 5 = true → u 13 = .pointer (some ⟨w.heap.size, 6, none⟩)) ∧ (L 6 = true → u 14 = .agg #[.int .i64 c1, .int .i64 c2, .int .i64 c3]) ∧ (L 7 = true → u 15 = .pointer (some ⟨w.heap.size, 0, none⟩)) ∧ (L 8 = true → u 16 = .agg #[.int .i64 a1, .int .i64 a2, .int .i64 a3]) ∧ (L 9 = true → u 17 = .agg #[.int .i64 (c1 - a1), .int .i64 (c2 - a2), .int .i64 (c3 - a3)]) ∧ (L 10 = true → u 18 = .tuple #[.agg #[.int .i64 n1, .int .i64 n2, .int .i64 n3], .int .i64 0]) ∧ (L 11 = true → u 19 = .agg #[.int .i64 n1, .int .i64 n2, .int .i64 n3]) ∧ (L 12 = true → u 20 = .int .i64 0) ∧ (L 14 = true → u 3 = .int .i64 0) ∧ (L 13 = false → Lok W (gy) 23 #[.int .i64 0, .int .i64 0, .int .i64 0]) ∧ (L 13 = true → Lok W (gy) 23 #[.int .i64 n1, .int .i64 n2, .int .i64 n3])) (by kernel_rfl) (by kernel_rfl) 15 rfl ?h0r1 ?stepr1 ?finr1
    case hFr1 => intro u; simp only [putAll, Act.put, List.setIfInBounds_toArray, List.set]; exact rfl
    case h0r1 => intro L u hL; exact ⟨(Below.refl _ _).drew, (fun h => by simp [hL] at h), (fun h => by simp [hL] at h), (fun h => by simp [hL] at h), (fun h => by simp [hL] at h), (fun h => by simp [hL] at h), (fun h => by simp [hL] at h), (fun h => by simp [hL] at h), (fun h => by simp [hL] at h), (fun h => by simp [hL] at h), (fun h => by simp [hL] at h), (fun h => by simp [hL] at h), (fun h => by simp [hL] at h), (fun h => by simp [hL] at h), (fun h => by simp [hL] at h), (fun _ => by assumption), (fun h => by simp [hL] at h)⟩
    case stepr1 =>
      refine ops_all (ops_cons ?s0r1 (ops_cons ?s1r1 (ops_cons ?s2r1 (ops_cons ?s3r1 (ops_cons ?s4r1 (ops_cons ?s5r1 (ops_cons ?s6r1 (ops_cons ?s7r1 (ops_cons ?s8r1 (ops_cons ?s9r1 (ops_cons ?s10r1 (ops_cons ?s11r1 (ops_cons ?s12r1 (ops_cons ?s13r1 (ops_cons ?s14r1 (ops_nil))))))))))))))))
      case s0r1 =>
        rintro L u W ⟨hB, c0, c1, c2, c3, c4, c5, c6, c7, c8, c9, c10, c11, c12, c14, o13, wn13⟩ hf hd K hK
        dsimp only at hK
        clear hd
        go_simp
        refine hK _ _ ?_ (fun h => by cases h)
        intro s hs
        cases hs
        exact ⟨hB, (fun _ => rfl), c1, c2, c3, c4, c5, c6, c7, c8, c9, c10, c11, c12, c14, o13, wn13⟩
      case s1r1 =>
        rintro L u W ⟨hB, c0, c1, c2, c3, c4, c5, c6, c7, c8, c9, c10, c11, c12, c14, o13, wn13⟩ hf hd K hK
        dsimp only at hK
        have hd0 : L 0 = true := (by first | (refine hd ⟨0, .data⟩ ?_ rfl; simp; done) | (refine hd ⟨0, .guard⟩ ?_ rfl; simp; done) | (refine hd ⟨0, .phase⟩ ?_ rfl; simp; done) | (refine hd ⟨0, .chain⟩ ?_ rfl; simp; done))
        have e0 := c0 hd0
        rw [e0] at hK
        have t0 := (kx.out.keepB hB hxy).cell (i := 3) rfl
        have t1 := (kx.out.keepB hB hxy).cell (i := 4) rfl
        have t2 := (kx.out.keepB hB hxy).cell (i := 5) rfl
        clear hd0
        clear hd
        go_simp
        refine hK _ _ ?_ (fun h => by cases h)
        intro s hs
        cases hs
        exact ⟨hB, c0, (fun _ => rfl), c2, c3, c4, c5, c6, c7, c8, c9, c10, c11, c12, c14, o13, wn13⟩
      case s2r1 =>
        rintro L u W ⟨hB, c0, c1, c2, c3, c4, c5, c6, c7, c8, c9, c10, c11, c12, c14, o13, wn13⟩ hf hd K hK
        dsimp only at hK
        clear hd
        go_simp
        refine hK _ _ ?_ (fun h => by cases h)
        intro s hs
        cases hs
        exact ⟨hB, c0, c1, (fun _ => rfl), c3, c4, c5, c6, c7, c8, c9, c10, c11, c12, c14, o13, wn13⟩
      case s3r1 =>
        rintro L u W ⟨hB, c0, c1, c2, c3, c4, c5, c6, c7, c8, c9, c10, c11, c12, c14, o13, wn13⟩ hf hd K hK
        dsimp only at hK
        have hd2 : L 2 = true := (by first | (refine hd ⟨2, .data⟩ ?_ rfl; simp; done) | (refine hd ⟨2, .guard⟩ ?_ rfl; simp; done) | (refine hd ⟨2, .phase⟩ ?_ rfl; simp; done) | (refine hd ⟨2, .chain⟩ ?_ rfl; simp; done))
        have e2 := c2 hd2
        rw [e2] at hK
        have t0 := (kx.out.keepB hB hxy).cell (i := 0) rfl
        have t1 := (kx.out.keepB hB hxy).cell (i := 1) rfl
        have t2 := (kx.out.keepB hB hxy).cell (i := 2) rfl
        clear hd2
        clear hd
        go_simp
        refine hK _ _ ?_ (fun h => by cases h)
        intro s hs
        cases hs
        exact ⟨hB, c0, c1, c2, (fun _ => rfl), c4, c5, c6, c7, c8, c9, c10, c11, c12, c14, o13, wn13⟩
      case s4r1 =>
        rintro L u W ⟨hB, c0, c1, c2, c3, c4, c5, c6, c7, c8, c9, c10, c11, c12, c14, o13, wn13⟩ hf hd K hK
        dsimp only at hK
        have hd1 : L 1 = true := (by first | (refine hd ⟨1, .data⟩ ?_ rfl; simp; done) | (refine hd ⟨1, .guard⟩ ?_ rfl; simp; done) | (refine hd ⟨1, .phase⟩ ?_ rfl; simp; done) | (refine hd ⟨1, .chain⟩ ?_ rfl; simp; done))
        have hd3 : L 3 = true := (by first | (refine hd ⟨3, .data⟩ ?_ rfl; simp; done) | (refine hd ⟨3, .guard⟩ ?_ rfl; simp; done) | (refine hd ⟨3, .phase⟩ ?_ rfl; simp; done) | (refine hd ⟨3, .chain⟩ ?_ rfl; simp; done))
        have e1 := c1 hd1
        rw [e1] at hK
        have e3 := c3 hd3
        rw [e3] at hK
        clear hd1
        clear hd3
        clear hd
        go_simp
        go_wp2_with (go_at_call 47; ((with_reducible refine (U1.out _).mono ?_); rintro e w5 ⟨rfl, hb⟩))
        refine hK _ _ ?_ (fun h => by cases h)
        intro s hs
        cases hs
        exact ⟨hB.trans (hb.mono (Nat.le_trans hbound hB.size)), c0, c1, c2, c3, (fun _ => rfl), c5, c6, c7, c8, c9, c10, c11, c12, c14, (fun h => (o13 h).keep hb), (fun h => (wn13 h).keep hb)⟩
      case s5r1 =>
        rintro L u W ⟨hB, c0, c1, c2, c3, c4, c5, c6, c7, c8, c9, c10, c11, c12, c14, o13, wn13⟩ hf hd K hK
        dsimp only at hK
        clear hd
        go_simp
        refine hK _ _ ?_ (fun h => by cases h)
        intro s hs
        cases hs
        exact ⟨hB, c0, c1, c2, c3, c4, (fun _ => rfl), c6, c7, c8, c9, c10, c11, c12, c14, o13, wn13⟩
      case s6r1 =>
        rintro L u W ⟨hB, c0, c1, c2, c3, c4, c5, c6, c7, c8, c9, c10, c11, c12, c14, o13, wn13⟩ hf hd K hK
        dsimp only at hK
        have hd5 : L 5 = true := (by first | (refine hd ⟨5, .data⟩ ?_ rfl; simp; done) | (refine hd ⟨5, .guard⟩ ?_ rfl; simp; done) | (refine hd ⟨5, .phase⟩ ?_ rfl; simp; done) | (refine hd ⟨5, .chain⟩ ?_ rfl; simp; done))
        have e5 := c5 hd5
        rw [e5] at hK
        have t0 := (kx.out.keepB hB hxy).cell (i := 6) rfl
        have t1 := (kx.out.keepB hB hxy).cell (i := 7) rfl
        have t2 := (kx.out.keepB hB hxy).cell (i := 8) rfl
        clear hd5
        clear hd
        go_simp
        refine hK _ _ ?_ (fun h => by cases h)
        intro s hs
        cases hs
        exact ⟨hB, c0, c1, c2, c3, c4, c5, (fun _ => rfl), c7, c8, c9, c10, c11, c12, c14, o13, wn13⟩
      case s7r1 =>
        rintro L u W ⟨hB, c0, c1, c2, c3, c4, c5, c6, c7, c8, c9, c10, c11, c12, c14, o13, wn13⟩ hf hd K hK
        dsimp only at hK
        clear hd
        go_simp
        refine hK _ _ ?_ (fun h => by cases h)
        intro s hs
        cases hs
        exact ⟨hB, c0, c1, c2, c3, c4, c5, c6, (fun _ => rfl), c8, c9, c10, c11, c12, c14, o13, wn13⟩
      case s8r1 =>
        rintro L u W ⟨hB, c0, c1, c2, c3, c4, c5, c6, c7, c8, c9, c10, c11, c12, c14, o13, wn13⟩ hf hd K hK
        dsimp only at hK
        have hd7 : L 7 = true := (by first | (refine hd ⟨7, .data⟩ ?_ rfl; simp; done) | (refine hd ⟨7, .guard⟩ ?_ rfl; simp; done) | (refine hd ⟨7, .phase⟩ ?_ rfl; simp; done) | (refine hd ⟨7, .chain⟩ ?_ rfl; simp; done))
        have e7 := c7 hd7
        rw [e7] at hK
        have t0 := (kx.out.keepB hB hxy).cell (i := 0) rfl
        have t1 := (kx.out.keepB hB hxy).cell (i := 1) rfl
        have t2 := (kx.out.keepB hB hxy).cell (i := 2) rfl
        clear hd7
        clear hd
        go_simp
        refine hK _ _ ?_ (fun h => by cases h)
        intro s hs
        cases hs
        exact ⟨hB, c0, c1, c2, c3, c4, c5, c6, c7, (fun _ => rfl), c9, c10, c11, c12, c14, o13, wn13⟩
      case s9r1 =>
        rintro L u W ⟨hB, c0, c1, c2, c3, c4, c5, c6, c7, c8, c9, c10, c11, c12, c14, o13, wn13⟩ hf hd K hK
        dsimp only at hK
        have hd6 : L 6 = true := (by first | (refine hd ⟨6, .data⟩ ?_ rfl; simp; done) | (refine hd ⟨6, .guard⟩ ?_ rfl; simp; done) | (refine hd ⟨6, .phase⟩ ?_ rfl; simp; done) | (refine hd ⟨6, .chain⟩ ?_ rfl; simp; done))
        have hd8 : L 8 = true := (by first | (refine hd ⟨8, .data⟩ ?_ rfl; simp; done) | (refine hd ⟨8, .guard⟩ ?_ rfl; simp; done) | (refine hd ⟨8, .phase⟩ ?_ rfl; simp; done) | (refine hd ⟨8, .chain⟩ ?_ rfl; simp; done))
        have e6 := c6 hd6
        rw [e6] at hK
        have e8 := c8 hd8
        rw [e8] at hK
        clear hd6
        clear hd8
        clear hd
        go_simp
        go_wp2_with (go_at_call 47; ((with_reducible refine (U2.out _).mono ?_); rintro e w5 ⟨rfl, hb⟩))
        refine hK _ _ ?_ (fun h => by cases h)
        intro s hs
        cases hs
        exact ⟨hB.trans (hb.mono (Nat.le_trans hbound hB.size)), c0, c1, c2, c3, c4, c5, c6, c7, c8, (fun _ => rfl), c10, c11, c12, c14, (fun h => (o13 h).keep hb), (fun h => (wn13 h).keep hb)⟩
      case s10r1 =>
        rintro L u W ⟨hB, c0, c1, c2, c3, c4, c5, c6, c7, c8, c9, c10, c11, c12, c14, o13, wn13⟩ hf hd K hK
        dsimp only at hK
        have hd4 : L 4 = true := (by first | (refine hd ⟨4, .data⟩ ?_ rfl; simp; done) | (refine hd ⟨4, .guard⟩ ?_ rfl; simp; done) | (refine hd ⟨4, .phase⟩ ?_ rfl; simp; done) | (refine hd ⟨4, .chain⟩ ?_ rfl; simp; done))
        have hd9 : L 9 = true := (by first | (refine hd ⟨9, .data⟩ ?_ rfl; simp; done) | (refine hd ⟨9, .guard⟩ ?_ rfl; simp; done) | (refine hd ⟨9, .phase⟩ ?_ rfl; simp; done) | (refine hd ⟨9, .chain⟩ ?_ rfl; simp; done))
        have e4 := c4 hd4
        rw [e4] at hK
        have e9 := c9 hd9
        rw [e9] at hK
        clear hd4
        clear hd9
        clear hd
        go_simp
        go_wp2_with (go_at_call 56; ((with_reducible refine (X.out _).mono ?_); rintro e w5 ⟨rfl, hb⟩))
        refine hK _ _ ?_ (fun h => by cases h)
        intro s hs
        cases hs
        exact ⟨hB.trans (hb.mono (Nat.le_trans hbound hB.size)), c0, c1, c2, c3, c4, c5, c6, c7, c8, c9, (fun _ => rfl), c11, c12, c14, (fun h => (o13 h).keep hb), (fun h => (wn13 h).keep hb)⟩
      case s11r1 =>
        rintro L u W ⟨hB, c0, c1, c2, c3, c4, c5, c6, c7, c8, c9, c10, c11, c12, c14, o13, wn13⟩ hf hd K hK
        dsimp only at hK
        have hd10 : L 10 = true := (by first | (refine hd ⟨10, .data⟩ ?_ rfl; simp; done) | (refine hd ⟨10, .guard⟩ ?_ rfl; simp; done) | (refine hd ⟨10, .phase⟩ ?_ rfl; simp; done) | (refine hd ⟨10, .chain⟩ ?_ rfl; simp; done))
        have e10 := c10 hd10
        rw [e10] at hK
        clear hd10
        clear hd
        go_simp
        refine hK _ _ ?_ (fun h => by cases h)
        intro s hs
        cases hs
        exact ⟨hB, c0, c1, c2, c3, c4, c5, c6, c7, c8, c9, c10, (fun _ => rfl), c12, c14, o13, wn13⟩
      case s12r1 =>
        rintro L u W ⟨hB, c0, c1, c2, c3, c4, c5, c6, c7, c8, c9, c10, c11, c12, c14, o13, wn13⟩ hf hd K hK
        dsimp only at hK
        have hd10 : L 10 = true := (by first | (refine hd ⟨10, .data⟩ ?_ rfl; simp; done) | (refine hd ⟨10, .guard⟩ ?_ rfl; simp; done) | (refine hd ⟨10, .phase⟩ ?_ rfl; simp; done) | (refine hd ⟨10, .chain⟩ ?_ rfl; simp; done))
        have e10 := c10 hd10
        rw [e10] at hK
        clear hd10
        clear hd
        go_simp
        refine hK _ _ ?_ (fun h => by cases h)
        intro s hs
        cases hs
        exact ⟨hB, c0, c1, c2, c3, c4, c5, c6, c7, c8, c9, c10, c11, (fun _ => rfl), c14, o13, wn13⟩
      case s13r1 =>
        rintro L u W ⟨hB, c0, c1, c2, c3, c4, c5, c6, c7, c8, c9, c10, c11, c12, c14, o13, wn13⟩ hf hd K hK
        dsimp only at hK
        have hd11 : L 11 = true := (by first | (refine hd ⟨11, .data⟩ ?_ rfl; simp; done) | (refine hd ⟨11, .phase⟩ ?_ rfl; simp; done))
        have k3 := o13 hf
        have e11 := c11 hd11
        rw [e11] at hK
        have t0 := k3.cell (i := 0) rfl
        have f0 := k3.frozen 0
        have t1 := k3.cell (i := 1) rfl
        have f1 := k3.frozen 1
        have t2 := k3.cell (i := 2) rfl
        have f2 := k3.frozen 2
        clear hd
        have hd11' := Lib.hid hd11
        clear hd11
        go_simp
        have hd11 := hd11'.out
        have hlok := ((k3.set (i := 0) (v := .int .i64 n1)).set (i := 1) (v := .int .i64 n2)).set (i := 2) (v := .int .i64 n3)
        refine hK undef _ (fun s h => by cases h) (fun _ => ?_)
        exact ⟨((hB.setCell (by first | exact Nat.le_refl _ | assumption | (show _ ≤ _; omega) | (show (gy) ≤ (gy); omega)) _).setCell (by first | exact Nat.le_refl _ | assumption | (show _ ≤ _; omega) | (show (gy) ≤ (gy); omega)) _).setCell (by first | exact Nat.le_refl _ | assumption | (show _ ≤ _; omega) | (show (gy) ≤ (gy); omega)) _, c0, c1, c2, c3, c4, c5, c6, c7, c8, c9, c10, (fun _ => rfl), c12, c14, (fun h => by cases h), (fun _ => hlok)⟩
      case s14r1 =>
        rintro L u W ⟨hB, c0, c1, c2, c3, c4, c5, c6, c7, c8, c9, c10, c11, c12, c14, o13, wn13⟩ hf hd K hK
        dsimp only at hK
        have hd12 : L 12 = true := (by first | (refine hd ⟨12, .data⟩ ?_ rfl; simp; done) | (refine hd ⟨12, .guard⟩ ?_ rfl; simp; done) | (refine hd ⟨12, .phase⟩ ?_ rfl; simp; done) | (refine hd ⟨12, .chain⟩ ?_ rfl; simp; done))
        have e12 := c12 hd12
        rw [e12] at hK
        clear hd12
        clear hd
        go_simp
        refine hK _ _ ?_ (fun h => by cases h)
        intro s hs
        cases hs
        exact ⟨hB, c0, c1, c2, c3, c4, c5, c6, c7, c8, c9, c10, c11, c12, (fun _ => rfl), o13, wn13⟩
    case finr1 =>
      rintro L u W hL ⟨hB, c0, c1, c2, c3, c4, c5, c6, c7, c8, c9, c10, c11, c12, c14, o13, wn13⟩
      have e0 := c0 (hL 0 (by decide))
      have e1 := c1 (hL 1 (by decide))
      have e2 := c2 (hL 2 (by decide))
      have e3 := c3 (hL 3 (by decide))
      have e4 := c4 (hL 4 (by decide))
      have e5 := c5 (hL 5 (by decide))
      have e6 := c6 (hL 6 (by decide))
      have e7 := c7 (hL 7 (by decide))
      have e8 := c8 (hL 8 (by decide))
      have e9 := c9 (hL 9 (by decide))
      have e10 := c10 (hL 10 (by decide))
      have e11 := c11 (hL 11 (by decide))
      have e12 := c12 (hL 12 (by decide))
      have e14 := c14 (hL 14 (by decide))
      have hlok13 := wn13 (hL 13 (by decide))
      clear hL c0 c1 c2 c3 c4 c5 c6 c7 c8 c9 c10 c11 c12 c14 o13 wn13
      try simp only [e0, e1, e2, e3, e4, e5, e6, e7, e8, e9, e10, e11, e12, e14]
      clear e0 e1 e2 e3 e4 e5 e6 e7 e8 e9 e10 e11 e12 e14
      have z0 := hlok13.cell (i := 0) rfl
      have z1 := hlok13.cell (i := 1) rfl
      have z2 := hlok13.cell (i := 2) rfl
      go_wp2_with fail
      exact bodyPost_ret (v := .tuple #[.agg #[.int .i64 n1, .int .i64 n2, .int .i64 n3], .int .i64 0]) (by simp [results, Try.results45, go_sem, z0, z1, z2]) rfl ⟨rfl, HB.out.trans (hB.mono (Nat.le_of_lt hxy))⟩
end Go.Proofs.Ytfghjfgdjlkooaa
