/-
  The reference's Int.
-/
import Derived.Test.YtjndajndllimhaaDoorRefS
import Derived.Test.YtjndajndllimhaaDoorRefI
import Derived.Test.YtjndajndllimhaaDoorRefO
import Derived.Test.YtjndajndllimhaaDoorRefJ
namespace Go.Proofs.YtjndajndllimhaaDoor
open Go.RowKit

theorem rint_arg (hi lo : Int) (w : World) (h : ¬ Rt hi lo) :
    Calls Tryd.prog 17 #[.agg #[.int .i64 hi, .int .i64 lo]] w fun e w' => e = .returned (.tuple #[.int .i64 0, .int .i64 1]) ∧ Below w.heap.size w w' := by
  have H := Lib.hid h
  clear h
  go_enter Tryd.func17, Tryd.ntmps17
  go_upto_region 1 with fail
  have hb0 := below_new1 w (.cells #[.int .i64 hi, .int .i64 lo] 24)
  have HB := Lib.hid hb0
  have k0 := Lib.hid (Lok.new w 24 #[.int .i64 hi, .int .i64 lo])
  clear hb0
  generalize w.alloc (.cells #[.int .i64 hi, .int .i64 lo] 24) = V0 at *
  have p0 := k0.out.cell (i := 0) rfl
  have p1 := k0.out.cell (i := 1) rfl
  go_wp2_with fail
  (((with_reducible refine (ris_no hi lo _ H.out).mono ?_); rintro e w1 ⟨rfl, hb1⟩); replace HB := Lib.hid (HB.out.trans (hb1.mono HB.out.size)); clear hb1)
  go_wp2
  go_ret2
  exact ⟨rfl, HB.out⟩

set_option maxRecDepth 100000 in
set_option maxHeartbeats 2000000 in
theorem rint_wide (hi lo : Int) (w : World) (h : Rt hi lo) (k : hi * 1000000000000000000 + lo < -9223372036854775808 ∨ 9223372036854775807 < hi * 1000000000000000000 + lo) :
    Calls Tryd.prog 17 #[.agg #[.int .i64 hi, .int .i64 lo]] w fun e w' => e = .returned (.tuple #[.int .i64 0, .int .i64 4]) ∧ Below w.heap.size w w' := by
  have sN : Small (hi * 1000000000000000000 + lo) := small_of (by unfold Rt at h; omega)
  have sA : Small (-9223372036854775808) := small_of (by omega)
  have sB : Small 9223372036854775807 := small_of (by omega)
  have H := Lib.hid h
  have LA := Lib.hid (fun (W : World) va vb (p : NumV W va (hi * 1000000000000000000 + lo)) (q : NumV W vb (-9223372036854775808)) => less_any p q sN sA)
  have LB := Lib.hid (fun (W : World) va vb (p : NumV W va 9223372036854775807) (q : NumV W vb (hi * 1000000000000000000 + lo)) => less_any p q sB sN)
  have OA := Lib.hid (fun W => ofInt_any (-9223372036854775808) W (by omega) (by omega))
  have OB := Lib.hid (fun W => ofInt_any 9223372036854775807 W (by omega) (by omega))
  clear h sN sA sB
  go_enter Tryd.func17, Tryd.ntmps17
  go_upto_region 1 with fail
  have hb0 := below_new1 w (.cells #[.int .i64 hi, .int .i64 lo] 24)
  have HB := Lib.hid hb0
  have k0 := Lib.hid (Lok.new w 24 #[.int .i64 hi, .int .i64 lo])
  clear hb0
  generalize w.alloc (.cells #[.int .i64 hi, .int .i64 lo] 24) = V0 at *
  have p0 := k0.out.cell (i := 0) rfl
  have p1 := k0.out.cell (i := 1) rfl
  go_wp2_with fail
  clear p0 p1
  (((with_reducible refine (ris_yes hi lo _ H.out).mono ?_); rintro e w1 ⟨rfl, hb1⟩); replace HB := Lib.hid (HB.out.trans (hb1.mono HB.out.size)); replace k0 := Lib.hid (k0.out.keep hb1); clear hb1)
  have p0 := k0.out.cell (i := 0) rfl
  have p1 := k0.out.cell (i := 1) rfl
  go_wp2_with fail
  clear p0 p1
  ((with_reducible refine (number_any hi lo _ H.out).mono ?_); rintro e w2 ⟨hb2, v2, rfl, q2⟩)
  replace HB := Lib.hid (HB.out.trans (hb2.mono HB.out.size))
  replace k0 := Lib.hid (k0.out.keep hb2)
  obtain ⟨s2, a2, n2, c2, rfl⟩ := num_open q2
  have Q2 := Lib.hid q2
  clear hb2 q2
  go_wp2_with fail
  have hb2 := below_new1 w2 (.cells #[.bool s2, .slice a2 n2 c2] 51)
  replace HB := Lib.hid (HB.out.trans (hb2.mono HB.out.size))
  replace k0 := Lib.hid (k0.out.keep hb2)
  replace Q2 := Lib.hid (Q2.out.keep hb2)
  have k2 := Lib.hid (Lok.new w2 51 #[.bool s2, .slice a2 n2 c2])
  clear hb2
  generalize w2.alloc (.cells #[.bool s2, .slice a2 n2 c2] 51) = V2 at *
  generalize w2.heap.size = g2 at *
  go_upto_region 4 with fail
  have p0 := k2.out.cell (i := 0) rfl
  have p1 := k2.out.cell (i := 1) rfl
  by_cases hl : hi * 1000000000000000000 + lo < -9223372036854775808
  · have dl : decide (hi * 1000000000000000000 + lo < -9223372036854775808) = true := decide_eq_true hl
    rw [dl] at LA
    clear hl dl k
    refine wp_region_rel (by kernel_rfl) [12, 13, 14, 15, 16, 17, 18, 19] ?Fr1 ?hFr1
      (fun L u W => Below V2.heap.size V2 W ∧ (L 0 = true → u 12 = .agg #[.bool s2, .slice a2 n2 c2]) ∧ (L 1 = true → L 2 = false → NumV W (u 13) (-9223372036854775808)) ∧ (L 2 = true → u 14 = .bool true) ∧ (L 3 = true → u 15 = .bool true) ∧ (L 7 = true → u 19 = .bool true)) (by kernel_rfl) (by kernel_rfl) 8 rfl ?h0r1 ?stepr1 ?finr1
    case hFr1 => intro u; simp only [putAll, Act.put, List.setIfInBounds_toArray, List.set]; exact rfl
    case h0r1 => intro L u hL; exact ⟨(Below.refl _ _).drew, (fun h => by simp [hL] at h), (fun h => by simp [hL] at h), (fun h => by simp [hL] at h), (fun h => by simp [hL] at h), (fun h => by simp [hL] at h)⟩
    case stepr1 =>
      refine ops_all (ops_cons ?s0r1 (ops_cons ?s1r1 (ops_cons ?s2r1 (ops_cons ?s3r1 (ops_cons ?s4r1 (ops_cons ?s5r1 (ops_cons ?s6r1 (ops_cons ?s7r1 (ops_nil)))))))))
      case s0r1 =>
        rintro L u W ⟨hB, c0, c1, c2, c3, c7⟩ hf hd K hK
        dsimp only at hK
        have t0 := keepc hB p0
        have t1 := keepc hB p1
        clear hd
        go_simp
        refine hK _ _ ?_ (fun h => by cases h)
        intro s hs
        cases hs
        exact ⟨hB, (fun _ => rfl), c1, c2, c3, c7⟩
      case s1r1 =>
        rintro L u W ⟨hB, c0, c1, c2, c3, c7⟩ hf hd K hK
        dsimp only at hK
        clear hd
        go_simp
        go_wp2_with (go_at_call 30; ((with_reducible refine (OA.out _).mono ?_); rintro e w5 ⟨hb, v5, rfl, q⟩))
        refine hK _ _ ?_ (fun h => by cases h)
        intro s hs
        cases hs
        exact ⟨hB.trans (hb.mono hB.size), c0, (fun _ _ => q), c2, c3, c7⟩
      case s2r1 =>
        rintro L u W ⟨hB, c0, c1, c2, c3, c7⟩ hf hd K hK
        dsimp only at hK
        have hd0 : L 0 = true := (by first | (refine hd ⟨0, .data⟩ ?_ rfl; simp; done) | (refine hd ⟨0, .guard⟩ ?_ rfl; simp; done) | (refine hd ⟨0, .phase⟩ ?_ rfl; simp; done) | (refine hd ⟨0, .chain⟩ ?_ rfl; simp; done))
        have hd1 : L 1 = true := (by first | (refine hd ⟨1, .data⟩ ?_ rfl; simp; done) | (refine hd ⟨1, .guard⟩ ?_ rfl; simp; done) | (refine hd ⟨1, .phase⟩ ?_ rfl; simp; done) | (refine hd ⟨1, .chain⟩ ?_ rfl; simp; done))
        have e0 := c0 hd0
        rw [e0] at hK
        have e1 := c1 hd1 (by first | exact hf | assumption)
        clear hd0
        clear hd1
        clear hd
        go_simp
        go_wp2_with (go_at_call 35; ((with_reducible refine (LA.out _ _ _ (Q2.out.keep hB) e1).mono ?_); rintro e w5 ⟨rfl, hb⟩))
        refine hK _ _ ?_ (fun h => by cases h)
        intro s hs
        cases hs
        exact ⟨hB.trans (hb.mono hB.size), c0, (fun _ h => by cases h), (fun _ => rfl), c3, c7⟩
      case s3r1 =>
        rintro L u W ⟨hB, c0, c1, c2, c3, c7⟩ hf hd K hK
        dsimp only at hK
        have hd2 : L 2 = true := (by first | (refine hd ⟨2, .data⟩ ?_ rfl; simp; done) | (refine hd ⟨2, .guard⟩ ?_ rfl; simp; done) | (refine hd ⟨2, .phase⟩ ?_ rfl; simp; done) | (refine hd ⟨2, .chain⟩ ?_ rfl; simp; done))
        have e2 := c2 hd2
        rw [e2] at hK
        clear hd2
        clear hd
        go_simp
        refine hK _ _ ?_ (fun h => by cases h)
        intro s hs
        cases hs
        exact ⟨hB, c0, c1, c2, (fun _ => rfl), c7⟩
      case s4r1 =>
        rintro L u W ⟨hB, c0, c1, c2, c3, c7⟩ hf hd K hK
        dsimp only at hK
        have hd3 : L 3 = true := (by first | (refine hd ⟨3, .data⟩ ?_ rfl; simp; done) | (refine hd ⟨3, .guard⟩ ?_ rfl; simp; done) | (refine hd ⟨3, .phase⟩ ?_ rfl; simp; done) | (refine hd ⟨3, .chain⟩ ?_ rfl; simp; done))
        have e3 := c3 hd3
        rw [e3] at hK
        clear hd3
        clear hd
        go_simp
        refine hK _ _ ?_ (fun h => by cases h)
        intro s hs
        cases hs
        exact ⟨hB, c0, c1, c2, c3, c7⟩
      case s5r1 =>
        rintro L u W ⟨hB, c0, c1, c2, c3, c7⟩ hf hd K hK
        dsimp only at hK
        have hd3 : L 3 = true := (by first | (refine hd ⟨3, .data⟩ ?_ rfl; simp; done) | (refine hd ⟨3, .guard⟩ ?_ rfl; simp; done) | (refine hd ⟨3, .phase⟩ ?_ rfl; simp; done) | (refine hd ⟨3, .chain⟩ ?_ rfl; simp; done))
        have e3 := c3 hd3
        rw [e3] at hK
        clear hd3
        clear hd
        go_simp
        refine hK _ _ ?_ (fun h => by cases h)
        intro s hs
        cases hs
        exact ⟨hB, c0, c1, c2, c3, c7⟩
      case s6r1 =>
        rintro L u W ⟨hB, c0, c1, c2, c3, c7⟩ hf hd K hK
        dsimp only at hK
        have hd3 : L 3 = true := (by first | (refine hd ⟨3, .data⟩ ?_ rfl; simp; done) | (refine hd ⟨3, .guard⟩ ?_ rfl; simp; done) | (refine hd ⟨3, .phase⟩ ?_ rfl; simp; done) | (refine hd ⟨3, .chain⟩ ?_ rfl; simp; done))
        have e3 := c3 hd3
        rw [e3] at hK
        clear hd3
        clear hd
        go_simp
        refine hK _ _ ?_ (fun h => by cases h)
        intro s hs
        cases hs
        exact ⟨hB, c0, c1, c2, c3, c7⟩
      case s7r1 =>
        rintro L u W ⟨hB, c0, c1, c2, c3, c7⟩ hf hd K hK
        dsimp only at hK
        have hd3 : L 3 = true := (by first | (refine hd ⟨3, .data⟩ ?_ rfl; simp; done) | (refine hd ⟨3, .guard⟩ ?_ rfl; simp; done) | (refine hd ⟨3, .phase⟩ ?_ rfl; simp; done) | (refine hd ⟨3, .chain⟩ ?_ rfl; simp; done))
        have e3 := c3 hd3
        rw [e3] at hK
        clear hd3
        clear hd
        go_simp
        refine hK _ _ ?_ (fun h => by cases h)
        intro s hs
        cases hs
        exact ⟨hB, c0, c1, c2, c3, (fun _ => rfl)⟩
    case finr1 =>
      rintro L u W hL ⟨hB, c0, c1, c2, c3, c7⟩
      have e0 := c0 (hL 0 (by decide))
      have e2 := c2 (hL 2 (by decide))
      have e3 := c3 (hL 3 (by decide))
      have e7 := c7 (hL 7 (by decide))
      clear hL c0 c1 c2 c3 c7
      try simp only [e0, e2, e3, e7]
      clear e0 e2 e3 e7
      go_wp2
      go_ret2
      exact ⟨rfl, HB.out.trans (hB.mono HB.out.size)⟩
  · have dl : decide (hi * 1000000000000000000 + lo < -9223372036854775808) = false := decide_eq_false hl
    have dr : decide (9223372036854775807 < hi * 1000000000000000000 + lo) = true := decide_eq_true (by omega)
    rw [dl] at LA
    rw [dr] at LB
    clear hl dl dr k
    refine wp_region_rel (by kernel_rfl) [12, 13, 14, 15, 16, 17, 18, 19] ?Fr2 ?hFr2
      (fun L u W => Below V2.heap.size V2 W ∧ (L 0 = true → u 12 = .agg #[.bool s2, .slice a2 n2 c2]) ∧ (L 1 = true → L 2 = false → NumV W (u 13) (-9223372036854775808)) ∧ (L 2 = true → u 14 = .bool false) ∧ (L 3 = true → u 15 = .bool false) ∧ (L 4 = true → L 6 = false → NumV W (u 16) 9223372036854775807) ∧ (L 5 = true → u 17 = .agg #[.bool s2, .slice a2 n2 c2]) ∧ (L 6 = true → u 18 = .bool true) ∧ (L 7 = true → u 19 = .bool true)) (by kernel_rfl) (by kernel_rfl) 8 rfl ?h0r2 ?stepr2 ?finr2
    case hFr2 => intro u; simp only [putAll, Act.put, List.setIfInBounds_toArray, List.set]; exact rfl
    case h0r2 => intro L u hL; exact ⟨(Below.refl _ _).drew, (fun h => by simp [hL] at h), (fun h => by simp [hL] at h), (fun h => by simp [hL] at h), (fun h => by simp [hL] at h), (fun h => by simp [hL] at h), (fun h => by simp [hL] at h), (fun h => by simp [hL] at h), (fun h => by simp [hL] at h)⟩
    case stepr2 =>
      refine ops_all (ops_cons ?s0r2 (ops_cons ?s1r2 (ops_cons ?s2r2 (ops_cons ?s3r2 (ops_cons ?s4r2 (ops_cons ?s5r2 (ops_cons ?s6r2 (ops_cons ?s7r2 (ops_nil)))))))))
      case s0r2 =>
        rintro L u W ⟨hB, c0, c1, c2, c3, c4, c5, c6, c7⟩ hf hd K hK
        dsimp only at hK
        have t0 := keepc hB p0
        have t1 := keepc hB p1
        clear hd
        go_simp
        refine hK _ _ ?_ (fun h => by cases h)
        intro s hs
        cases hs
        exact ⟨hB, (fun _ => rfl), c1, c2, c3, c4, c5, c6, c7⟩
      case s1r2 =>
        rintro L u W ⟨hB, c0, c1, c2, c3, c4, c5, c6, c7⟩ hf hd K hK
        dsimp only at hK
        clear hd
        go_simp
        go_wp2_with (go_at_call 30; ((with_reducible refine (OA.out _).mono ?_); rintro e w5 ⟨hb, v5, rfl, q⟩))
        refine hK _ _ ?_ (fun h => by cases h)
        intro s hs
        cases hs
        exact ⟨hB.trans (hb.mono hB.size), c0, (fun _ _ => q), c2, c3, (fun h k => (c4 h k).keep hb), c5, c6, c7⟩
      case s2r2 =>
        rintro L u W ⟨hB, c0, c1, c2, c3, c4, c5, c6, c7⟩ hf hd K hK
        dsimp only at hK
        have hd0 : L 0 = true := (by first | (refine hd ⟨0, .data⟩ ?_ rfl; simp; done) | (refine hd ⟨0, .guard⟩ ?_ rfl; simp; done) | (refine hd ⟨0, .phase⟩ ?_ rfl; simp; done) | (refine hd ⟨0, .chain⟩ ?_ rfl; simp; done))
        have hd1 : L 1 = true := (by first | (refine hd ⟨1, .data⟩ ?_ rfl; simp; done) | (refine hd ⟨1, .guard⟩ ?_ rfl; simp; done) | (refine hd ⟨1, .phase⟩ ?_ rfl; simp; done) | (refine hd ⟨1, .chain⟩ ?_ rfl; simp; done))
        have e0 := c0 hd0
        rw [e0] at hK
        have e1 := c1 hd1 (by first | exact hf | assumption)
        clear hd0
        clear hd1
        clear hd
        go_simp
        go_wp2_with (go_at_call 35; ((with_reducible refine (LA.out _ _ _ (Q2.out.keep hB) e1).mono ?_); rintro e w5 ⟨rfl, hb⟩))
        refine hK _ _ ?_ (fun h => by cases h)
        intro s hs
        cases hs
        exact ⟨hB.trans (hb.mono hB.size), c0, (fun _ h => by cases h), (fun _ => rfl), c3, (fun h k => (c4 h k).keep hb), c5, c6, c7⟩
      case s3r2 =>
        rintro L u W ⟨hB, c0, c1, c2, c3, c4, c5, c6, c7⟩ hf hd K hK
        dsimp only at hK
        have hd2 : L 2 = true := (by first | (refine hd ⟨2, .data⟩ ?_ rfl; simp; done) | (refine hd ⟨2, .guard⟩ ?_ rfl; simp; done) | (refine hd ⟨2, .phase⟩ ?_ rfl; simp; done) | (refine hd ⟨2, .chain⟩ ?_ rfl; simp; done))
        have e2 := c2 hd2
        rw [e2] at hK
        clear hd2
        clear hd
        go_simp
        refine hK _ _ ?_ (fun h => by cases h)
        intro s hs
        cases hs
        exact ⟨hB, c0, c1, c2, (fun _ => rfl), c4, c5, c6, c7⟩
      case s4r2 =>
        rintro L u W ⟨hB, c0, c1, c2, c3, c4, c5, c6, c7⟩ hf hd K hK
        dsimp only at hK
        have hd3 : L 3 = true := (by first | (refine hd ⟨3, .data⟩ ?_ rfl; simp; done) | (refine hd ⟨3, .guard⟩ ?_ rfl; simp; done) | (refine hd ⟨3, .phase⟩ ?_ rfl; simp; done) | (refine hd ⟨3, .chain⟩ ?_ rfl; simp; done))
        have e3 := c3 hd3
        rw [e3] at hK
        clear hd3
        clear hd
        go_simp
        go_wp2_with (go_at_call 30; ((with_reducible refine (OB.out _).mono ?_); rintro e w5 ⟨hb, v5, rfl, q⟩))
        refine hK _ _ ?_ (fun h => by cases h)
        intro s hs
        cases hs
        exact ⟨hB.trans (hb.mono hB.size), c0, (fun h k => (c1 h k).keep hb), c2, c3, (fun _ _ => q), c5, c6, c7⟩
      case s5r2 =>
        rintro L u W ⟨hB, c0, c1, c2, c3, c4, c5, c6, c7⟩ hf hd K hK
        dsimp only at hK
        have hd3 : L 3 = true := (by first | (refine hd ⟨3, .data⟩ ?_ rfl; simp; done) | (refine hd ⟨3, .guard⟩ ?_ rfl; simp; done) | (refine hd ⟨3, .phase⟩ ?_ rfl; simp; done) | (refine hd ⟨3, .chain⟩ ?_ rfl; simp; done))
        have e3 := c3 hd3
        rw [e3] at hK
        have t0 := keepc hB p0
        have t1 := keepc hB p1
        clear hd3
        clear hd
        go_simp
        refine hK _ _ ?_ (fun h => by cases h)
        intro s hs
        cases hs
        exact ⟨hB, c0, c1, c2, c3, c4, (fun _ => rfl), c6, c7⟩
      case s6r2 =>
        rintro L u W ⟨hB, c0, c1, c2, c3, c4, c5, c6, c7⟩ hf hd K hK
        dsimp only at hK
        have hd3 : L 3 = true := (by first | (refine hd ⟨3, .data⟩ ?_ rfl; simp; done) | (refine hd ⟨3, .guard⟩ ?_ rfl; simp; done) | (refine hd ⟨3, .phase⟩ ?_ rfl; simp; done) | (refine hd ⟨3, .chain⟩ ?_ rfl; simp; done))
        have hd4 : L 4 = true := (by first | (refine hd ⟨4, .data⟩ ?_ rfl; simp; done) | (refine hd ⟨4, .guard⟩ ?_ rfl; simp; done) | (refine hd ⟨4, .phase⟩ ?_ rfl; simp; done) | (refine hd ⟨4, .chain⟩ ?_ rfl; simp; done))
        have hd5 : L 5 = true := (by first | (refine hd ⟨5, .data⟩ ?_ rfl; simp; done) | (refine hd ⟨5, .guard⟩ ?_ rfl; simp; done) | (refine hd ⟨5, .phase⟩ ?_ rfl; simp; done) | (refine hd ⟨5, .chain⟩ ?_ rfl; simp; done))
        have e3 := c3 hd3
        rw [e3] at hK
        have e4 := c4 hd4 (by first | exact hf | assumption)
        have e5 := c5 hd5
        rw [e5] at hK
        clear hd3
        clear hd4
        clear hd5
        clear hd
        go_simp
        go_wp2_with (go_at_call 35; ((with_reducible refine (LB.out _ _ _ e4 (Q2.out.keep hB)).mono ?_); rintro e w5 ⟨rfl, hb⟩))
        refine hK _ _ ?_ (fun h => by cases h)
        intro s hs
        cases hs
        exact ⟨hB.trans (hb.mono hB.size), c0, (fun h k => (c1 h k).keep hb), c2, c3, (fun _ h => by cases h), c5, (fun _ => rfl), c7⟩
      case s7r2 =>
        rintro L u W ⟨hB, c0, c1, c2, c3, c4, c5, c6, c7⟩ hf hd K hK
        dsimp only at hK
        have hd3 : L 3 = true := (by first | (refine hd ⟨3, .data⟩ ?_ rfl; simp; done) | (refine hd ⟨3, .guard⟩ ?_ rfl; simp; done) | (refine hd ⟨3, .phase⟩ ?_ rfl; simp; done) | (refine hd ⟨3, .chain⟩ ?_ rfl; simp; done))
        have hd6 : L 6 = true := (by first | (refine hd ⟨6, .data⟩ ?_ rfl; simp; done) | (refine hd ⟨6, .guard⟩ ?_ rfl; simp; done) | (refine hd ⟨6, .phase⟩ ?_ rfl; simp; done) | (refine hd ⟨6, .chain⟩ ?_ rfl; simp; done))
        have e3 := c3 hd3
        rw [e3] at hK
        have e6 := c6 hd6
        rw [e6] at hK
        clear hd3
        clear hd6
        clear hd
        go_simp
        refine hK _ _ ?_ (fun h => by cases h)
        intro s hs
        cases hs
        exact ⟨hB, c0, c1, c2, c3, c4, c5, c6, (fun _ => rfl)⟩
    case finr2 =>
      rintro L u W hL ⟨hB, c0, c1, c2, c3, c4, c5, c6, c7⟩
      have e0 := c0 (hL 0 (by decide))
      have e2 := c2 (hL 2 (by decide))
      have e3 := c3 (hL 3 (by decide))
      have e5 := c5 (hL 5 (by decide))
      have e6 := c6 (hL 6 (by decide))
      have e7 := c7 (hL 7 (by decide))
      clear hL c0 c1 c2 c3 c4 c5 c6 c7
      try simp only [e0, e2, e3, e5, e6, e7]
      clear e0 e2 e3 e5 e6 e7
      go_wp2
      go_ret2
      exact ⟨rfl, HB.out.trans (hB.mono HB.out.size)⟩
end Go.Proofs.YtjndajndllimhaaDoor
