/-
  The reference's Int where the number is an int; the whole of it.
-/
import Derived.Test.YtjndajndllimhaaDoorRefU
import Derived.Test.YtjndajndllimhaaDoorWideB
namespace Go.Proofs.YtjndajndllimhaaDoor
open Go.RowKit

theorem vs_top {D : Nat → Int} {n : Nat} (h : Dg D n) {j l : Nat} (hj : j + l ≤ n) : 0 ≤ vs D j l ∧ vs D j l ≤ vs D 0 (j + l) := by
  have e := vs_split D l j 0
  have b1 := vs_bd h j 0 (by omega)
  have b2 := vs_bd h l j (by omega)
  have p := p10_pos j
  have : 1 * vs D j l ≤ p10 j * vs D j l := Int.mul_le_mul_of_nonneg_right p b2.1
  rw [Nat.zero_add] at e
  omega

set_option maxRecDepth 100000 in
set_option maxHeartbeats 4000000 in
theorem rint_ok (hi lo : Int) (w : World) (h : Rt hi lo) (k1 : -9223372036854775808 ≤ hi * 1000000000000000000 + lo) (k2 : hi * 1000000000000000000 + lo ≤ 9223372036854775807) :
    Calls Tryd.prog 17 #[.agg #[.int .i64 hi, .int .i64 lo]] w fun e w' => e = .returned (.tuple #[.int .i64 (hi * 1000000000000000000 + lo), .int .i64 0]) ∧ Below w.heap.size w w' := by
  have sN : Small (hi * 1000000000000000000 + lo) := small_of (by unfold Rt at h; omega)
  have sA : Small (-9223372036854775808) := small_of (by omega)
  have sB : Small 9223372036854775807 := small_of (by omega)
  have H := Lib.hid h
  have LA := Lib.hid (fun (W : World) va vb (p : NumV W va (hi * 1000000000000000000 + lo)) (q : NumV W vb (-9223372036854775808)) => less_any p q sN sA)
  have LB := Lib.hid (fun (W : World) va vb (p : NumV W va 9223372036854775807) (q : NumV W vb (hi * 1000000000000000000 + lo)) => less_any p q sB sN)
  have OA := Lib.hid (fun W => ofInt_any (-9223372036854775808) W (by omega) (by omega))
  have OB := Lib.hid (fun W => ofInt_any 9223372036854775807 W (by omega) (by omega))
  have dl : decide (hi * 1000000000000000000 + lo < -9223372036854775808) = false := decide_eq_false (by omega)
  have dr : decide (9223372036854775807 < hi * 1000000000000000000 + lo) = false := decide_eq_false (by omega)
  rw [dl] at LA
  rw [dr] at LB
  have NN := Lib.hid (fun W => number_any hi lo W h)
  clear h sA sB dl dr
  generalize hN : hi * 1000000000000000000 + lo = N at *
  clear hN
  have HSN := Lib.hid sN
  clear sN
  go_enter Tryd.func17, Tryd.ntmps17
  go_upto_region 1 with fail
  have hb0 := below_new1 w (.cells #[.int .i64 hi, .int .i64 lo] 24)
  have HB := Lib.hid hb0
  have k0 := Lib.hid (Lok.new w 24 #[.int .i64 hi, .int .i64 lo])
  clear hb0
  generalize w.alloc (.cells #[.int .i64 hi, .int .i64 lo] 24) = V0 at *
  have p0 := k0.out.cell (i := 0) rfl
  have p1 := k0.out.cell (i := 1) rfl
  go_wp2_with fail
  clear p0 p1
  (((with_reducible refine (ris_yes hi lo _ H.out).mono ?_); rintro e w1 ⟨rfl, hb1⟩); replace HB := Lib.hid (HB.out.trans (hb1.mono HB.out.size)); replace k0 := Lib.hid (k0.out.keep hb1); clear hb1)
  have p0 := k0.out.cell (i := 0) rfl
  have p1 := k0.out.cell (i := 1) rfl
  go_wp2_with fail
  clear p0 p1
  ((with_reducible refine (NN.out _).mono ?_); rintro e w3 ⟨hb3, v3, rfl, q3⟩)
  replace HB := Lib.hid (HB.out.trans (hb3.mono HB.out.size))
  replace k0 := Lib.hid (k0.out.keep hb3)
  obtain ⟨s3, a3, n3, c3, rfl⟩ := num_open q3
  have Q3 := Lib.hid q3
  clear hb3 q3
  go_wp2_with fail
  have hb3 := below_new1 w3 (.cells #[.bool s3, .slice a3 n3 c3] 51)
  replace HB := Lib.hid (HB.out.trans (hb3.mono HB.out.size))
  replace k0 := Lib.hid (k0.out.keep hb3)
  replace Q3 := Lib.hid (Q3.out.keep hb3)
  have k3 := Lib.hid (Lok.new w3 51 #[.bool s3, .slice a3 n3 c3])
  clear hb3
  generalize w3.alloc (.cells #[.bool s3, .slice a3 n3 c3] 51) = V3 at *
  generalize w3.heap.size = g3 at *
  go_upto_region 4 with fail
  have p0 := k3.out.cell (i := 0) rfl
  have p1 := k3.out.cell (i := 1) rfl
  refine wp_region_rel (by kernel_rfl) [12, 13, 14, 15, 16, 17, 18, 19] ?Fr1 ?hFr1
    (fun L u W => Below V3.heap.size V3 W ∧ (L 0 = true → u 12 = .agg #[.bool s3, .slice a3 n3 c3]) ∧ (L 1 = true → L 2 = false → NumV W (u 13) (-9223372036854775808)) ∧ (L 2 = true → u 14 = .bool false) ∧ (L 3 = true → u 15 = .bool false) ∧ (L 4 = true → L 6 = false → NumV W (u 16) 9223372036854775807) ∧ (L 5 = true → u 17 = .agg #[.bool s3, .slice a3 n3 c3]) ∧ (L 6 = true → u 18 = .bool false) ∧ (L 7 = true → u 19 = .bool false)) (by kernel_rfl) (by kernel_rfl) 8 rfl ?h0r1 ?stepr1 ?finr1
  case hFr1 => intro u; simp only [putAll, Act.put, List.setIfInBounds_toArray, List.set]; exact rfl
  case h0r1 => intro L u hL; exact ⟨(Below.refl _ _).drew, (fun h => by simp [hL] at h), (fun h => by simp [hL] at h), (fun h => by simp [hL] at h), (fun h => by simp [hL] at h), (fun h => by simp [hL] at h), (fun h => by simp [hL] at h), (fun h => by simp [hL] at h), (fun h => by simp [hL] at h)⟩
  case stepr1 =>
    refine ops_all (ops_cons ?s0r1 (ops_cons ?s1r1 (ops_cons ?s2r1 (ops_cons ?s3r1 (ops_cons ?s4r1 (ops_cons ?s5r1 (ops_cons ?s6r1 (ops_cons ?s7r1 (ops_nil)))))))))
    case s0r1 =>
      rintro L u W ⟨hB, c0, c1, c2, c3, c4, c5, c6, c7⟩ hf hd K hK
      dsimp only at hK
      have t0 := keepc hB p0
      have t1 := keepc hB p1
      clear hd
      go_simp
      refine hK _ _ ?_ (fun h => by cases h)
      intro s hs
      cases hs
      exact ⟨hB, (fun _ => rfl), c1, c2, c3, c4, c5, c6, c7⟩
    case s1r1 =>
      rintro L u W ⟨hB, c0, c1, c2, c3, c4, c5, c6, c7⟩ hf hd K hK
      dsimp only at hK
      clear hd
      go_simp
      go_wp2_with (go_at_call 30; ((with_reducible refine (OA.out _).mono ?_); rintro e w5 ⟨hb, v5, rfl, q⟩))
      refine hK _ _ ?_ (fun h => by cases h)
      intro s hs
      cases hs
      exact ⟨hB.trans (hb.mono hB.size), c0, (fun _ _ => q), c2, c3, (fun h k => (c4 h k).keep hb), c5, c6, c7⟩
    case s2r1 =>
      rintro L u W ⟨hB, c0, c1, c2, c3, c4, c5, c6, c7⟩ hf hd K hK
      dsimp only at hK
      have hd0 : L 0 = true := (by first | (refine hd ⟨0, .data⟩ ?_ rfl; simp; done) | (refine hd ⟨0, .guard⟩ ?_ rfl; simp; done) | (refine hd ⟨0, .phase⟩ ?_ rfl; simp; done) | (refine hd ⟨0, .chain⟩ ?_ rfl; simp; done))
      have hd1 : L 1 = true := (by first | (refine hd ⟨1, .data⟩ ?_ rfl; simp; done) | (refine hd ⟨1, .guard⟩ ?_ rfl; simp; done) | (refine hd ⟨1, .phase⟩ ?_ rfl; simp; done) | (refine hd ⟨1, .chain⟩ ?_ rfl; simp; done))
      have e0 := c0 hd0
      rw [e0] at hK
      have e1 := c1 hd1 (by first | exact hf | assumption)
      clear hd0
      clear hd1
      clear hd
      go_simp
      go_wp2_with (go_at_call 35; ((with_reducible refine (LA.out _ _ _ (Q3.out.keep hB) e1).mono ?_); rintro e w5 ⟨rfl, hb⟩))
      refine hK _ _ ?_ (fun h => by cases h)
      intro s hs
      cases hs
      exact ⟨hB.trans (hb.mono hB.size), c0, (fun _ h => by cases h), (fun _ => rfl), c3, (fun h k => (c4 h k).keep hb), c5, c6, c7⟩
    case s3r1 =>
      rintro L u W ⟨hB, c0, c1, c2, c3, c4, c5, c6, c7⟩ hf hd K hK
      dsimp only at hK
      have hd2 : L 2 = true := (by first | (refine hd ⟨2, .data⟩ ?_ rfl; simp; done) | (refine hd ⟨2, .guard⟩ ?_ rfl; simp; done) | (refine hd ⟨2, .phase⟩ ?_ rfl; simp; done) | (refine hd ⟨2, .chain⟩ ?_ rfl; simp; done))
      have e2 := c2 hd2
      rw [e2] at hK
      clear hd2
      clear hd
      go_simp
      refine hK _ _ ?_ (fun h => by cases h)
      intro s hs
      cases hs
      exact ⟨hB, c0, c1, c2, (fun _ => rfl), c4, c5, c6, c7⟩
    case s4r1 =>
      rintro L u W ⟨hB, c0, c1, c2, c3, c4, c5, c6, c7⟩ hf hd K hK
      dsimp only at hK
      have hd3 : L 3 = true := (by first | (refine hd ⟨3, .data⟩ ?_ rfl; simp; done) | (refine hd ⟨3, .guard⟩ ?_ rfl; simp; done) | (refine hd ⟨3, .phase⟩ ?_ rfl; simp; done) | (refine hd ⟨3, .chain⟩ ?_ rfl; simp; done))
      have e3 := c3 hd3
      rw [e3] at hK
      clear hd3
      clear hd
      go_simp
      go_wp2_with (go_at_call 30; ((with_reducible refine (OB.out _).mono ?_); rintro e w5 ⟨hb, v5, rfl, q⟩))
      refine hK _ _ ?_ (fun h => by cases h)
      intro s hs
      cases hs
      exact ⟨hB.trans (hb.mono hB.size), c0, (fun h k => (c1 h k).keep hb), c2, c3, (fun _ _ => q), c5, c6, c7⟩
    case s5r1 =>
      rintro L u W ⟨hB, c0, c1, c2, c3, c4, c5, c6, c7⟩ hf hd K hK
      dsimp only at hK
      have hd3 : L 3 = true := (by first | (refine hd ⟨3, .data⟩ ?_ rfl; simp; done) | (refine hd ⟨3, .guard⟩ ?_ rfl; simp; done) | (refine hd ⟨3, .phase⟩ ?_ rfl; simp; done) | (refine hd ⟨3, .chain⟩ ?_ rfl; simp; done))
      have e3 := c3 hd3
      rw [e3] at hK
      have t0 := keepc hB p0
      have t1 := keepc hB p1
      clear hd3
      clear hd
      go_simp
      refine hK _ _ ?_ (fun h => by cases h)
      intro s hs
      cases hs
      exact ⟨hB, c0, c1, c2, c3, c4, (fun _ => rfl), c6, c7⟩
    case s6r1 =>
      rintro L u W ⟨hB, c0, c1, c2, c3, c4, c5, c6, c7⟩ hf hd K hK
      dsimp only at hK
      have hd3 : L 3 = true := (by first | (refine hd ⟨3, .data⟩ ?_ rfl; simp; done) | (refine hd ⟨3, .guard⟩ ?_ rfl; simp; done) | (refine hd ⟨3, .phase⟩ ?_ rfl; simp; done) | (refine hd ⟨3, .chain⟩ ?_ rfl; simp; done))
      have hd4 : L 4 = true := (by first | (refine hd ⟨4, .data⟩ ?_ rfl; simp; done) | (refine hd ⟨4, .guard⟩ ?_ rfl; simp; done) | (refine hd ⟨4, .phase⟩ ?_ rfl; simp; done) | (refine hd ⟨4, .chain⟩ ?_ rfl; simp; done))
      have hd5 : L 5 = true := (by first | (refine hd ⟨5, .data⟩ ?_ rfl; simp; done) | (refine hd ⟨5, .guard⟩ ?_ rfl; simp; done) | (refine hd ⟨5, .phase⟩ ?_ rfl; simp; done) | (refine hd ⟨5, .chain⟩ ?_ rfl; simp; done))
      have e3 := c3 hd3
      rw [e3] at hK
      have e4 := c4 hd4 (by first | exact hf | assumption)
      have e5 := c5 hd5
      rw [e5] at hK
      clear hd3
      clear hd4
      clear hd5
      clear hd
      go_simp
      go_wp2_with (go_at_call 35; ((with_reducible refine (LB.out _ _ _ e4 (Q3.out.keep hB)).mono ?_); rintro e w5 ⟨rfl, hb⟩))
      refine hK _ _ ?_ (fun h => by cases h)
      intro s hs
      cases hs
      exact ⟨hB.trans (hb.mono hB.size), c0, (fun h k => (c1 h k).keep hb), c2, c3, (fun _ h => by cases h), c5, (fun _ => rfl), c7⟩
    case s7r1 =>
      rintro L u W ⟨hB, c0, c1, c2, c3, c4, c5, c6, c7⟩ hf hd K hK
      dsimp only at hK
      have hd3 : L 3 = true := (by first | (refine hd ⟨3, .data⟩ ?_ rfl; simp; done) | (refine hd ⟨3, .guard⟩ ?_ rfl; simp; done) | (refine hd ⟨3, .phase⟩ ?_ rfl; simp; done) | (refine hd ⟨3, .chain⟩ ?_ rfl; simp; done))
      have hd6 : L 6 = true := (by first | (refine hd ⟨6, .data⟩ ?_ rfl; simp; done) | (refine hd ⟨6, .guard⟩ ?_ rfl; simp; done) | (refine hd ⟨6, .phase⟩ ?_ rfl; simp; done) | (refine hd ⟨6, .chain⟩ ?_ rfl; simp; done))
      have e3 := c3 hd3
      rw [e3] at hK
      have e6 := c6 hd6
      rw [e6] at hK
      clear hd3
      clear hd6
      clear hd
      go_simp
      refine hK _ _ ?_ (fun h => by cases h)
      intro s hs
      cases hs
      exact ⟨hB, c0, c1, c2, c3, c4, c5, c6, (fun _ => rfl)⟩
  case finr1 =>
    rintro L u W hL ⟨hB, c0, c1, c2, c3, c4, c5, c6, c7⟩
    have e0 := c0 (hL 0 (by decide))
    have e2 := c2 (hL 2 (by decide))
    have e3 := c3 (hL 3 (by decide))
    have e5 := c5 (hL 5 (by decide))
    have e6 := c6 (hL 6 (by decide))
    have e7 := c7 (hL 7 (by decide))
    clear hL c0 c1 c2 c3 c4 c5 c6 c7
    try simp only [e0, e2, e3, e5, e6, e7]
    clear e0 e2 e3 e5 e6 e7
    replace k3 := Lib.hid (k3.out.keep hB)
    replace Q3 := Lib.hid (Q3.out.keep hB)
    replace HB := Lib.hid (HB.out.trans (hB.mono HB.out.size))
    clear hB p0 p1 LA LB OA OB
    obtain ⟨a', n', c', D, e, ra, hc, da, ta, ea⟩ := Q3.out
    cases e
    have hn := num_small da ta ea HSN.out
    have RA := Lib.hid ra
    have DA := Lib.hid da
    have EA := Lib.hid ea
    have HT := Lib.hid (fun j l (q : j + l ≤ n3) => vs_top da q)
    clear ra da ta ea Q3 HSN
    have p0 := k3.out.cell (i := 0) rfl
    have p1 := k3.out.cell (i := 1) rfl
    have M := Lib.hid (show N.natAbs ≤ 9223372036854775808 ∧ (¬ N < 0 → N.natAbs ≤ 9223372036854775807) from by omega)
    clear k1 k2
    by_cases hs : N < 0
    · rw [decide_eq_true hs] at p0
      go_wp2_with fail
      go_loop [5, 6] (fun x i => ∃ k : Nat, k ≤ n3 ∧ i = .int .i64 ((k : Int) - 1) ∧ ∃ Y : Int, x = .int .i64 Y ∧ Hid (Y = -vs D k (n3 - k))) (fun _ i => (intOf i + 1).toNat)
      case atStart => exact ⟨n3, Nat.le_refl _, rfl, 0, rfl, Lib.hid (by rw [Nat.sub_self]; rfl)⟩
      case round =>
        obtain ⟨k, hk, rfl, Y, rfl, HY⟩ := hrel
        rcases Nat.eq_zero_or_pos k with z | z
        · subst z
          have hY : Y = N := by rw [HY.out, Nat.sub_zero, EA.out]; omega
          subst hY
          clear HY hs p0
          go_wp2
          go_ret2
          exact ⟨rfl, HB.out⟩
        · obtain ⟨j, rfl⟩ : ∃ j, k = j + 1 := ⟨k - 1, by omega⟩
          rw [show ((j + 1 : Nat) : Int) - 1 = (j : Int) from by omega]
          obtain ⟨l, rfl⟩ : ∃ l, n3 = j + 1 + l := ⟨n3 - (j + 1), by omega⟩
          obtain ⟨b, off, rfl, hlb, hcell⟩ := RA.out.at (show j < j + 1 + l by omega)
          have hc := hcell j (by omega)
          have t1 := HT.out j (l + 1) (by omega)
          have t2 := HT.out (j + 1) l (by omega)
          have e0 := EA.out
          rw [show j + (l + 1) = j + 1 + l from by omega, e0] at t1
          have hv : vs D j (l + 1) = D j + 10 * vs D (j + 1) l := rfl
          have hy := HY.out
          rw [show j + 1 + l - (j + 1) = l from by omega] at hy
          have d9 := DA.out j (by omega)
          have m := M.out
          have HY2 : Hid (10 * Y - D j = -vs D j (j + 1 + l - j)) := Lib.hid (by rw [show j + 1 + l - j = l + 1 from by omega, hv]; omega)
          have g1 : -9223372036854775808 ≤ 10 * Y - D j ∧ 10 * Y - D j ≤ 0 := by omega
          have g2 : -9223372036854775808 ≤ 10 * Y ∧ 10 * Y ≤ 0 := by omega
          clear hcell t1 t2 e0 hv hy m HY hs
          generalize D j = dj at *
          go_wp2
          go_round
          case rel => exact ⟨j, by omega, rfl, _, rfl, HY2⟩
          case measure => simp [intOf]
    · rw [decide_eq_false hs] at p0
      go_wp2_with fail
      go_loop [5, 6] (fun x i => ∃ k : Nat, k ≤ n3 ∧ i = .int .i64 ((k : Int) - 1) ∧ ∃ Y : Int, x = .int .i64 Y ∧ Hid (Y = vs D k (n3 - k))) (fun _ i => (intOf i + 1).toNat)
      case atStart => exact ⟨n3, Nat.le_refl _, rfl, 0, rfl, Lib.hid (by rw [Nat.sub_self]; rfl)⟩
      case round =>
        obtain ⟨k, hk, rfl, Y, rfl, HY⟩ := hrel
        rcases Nat.eq_zero_or_pos k with z | z
        · subst z
          have hY : Y = N := by rw [HY.out, Nat.sub_zero, EA.out]; omega
          subst hY
          clear HY hs p0
          go_wp2
          go_ret2
          exact ⟨rfl, HB.out⟩
        · obtain ⟨j, rfl⟩ : ∃ j, k = j + 1 := ⟨k - 1, by omega⟩
          rw [show ((j + 1 : Nat) : Int) - 1 = (j : Int) from by omega]
          obtain ⟨l, rfl⟩ : ∃ l, n3 = j + 1 + l := ⟨n3 - (j + 1), by omega⟩
          obtain ⟨b, off, rfl, hlb, hcell⟩ := RA.out.at (show j < j + 1 + l by omega)
          have hc := hcell j (by omega)
          have t1 := HT.out j (l + 1) (by omega)
          have t2 := HT.out (j + 1) l (by omega)
          have e0 := EA.out
          rw [show j + (l + 1) = j + 1 + l from by omega, e0] at t1
          have hv : vs D j (l + 1) = D j + 10 * vs D (j + 1) l := rfl
          have hy := HY.out
          rw [show j + 1 + l - (j + 1) = l from by omega] at hy
          have d9 := DA.out j (by omega)
          have m := M.out
          have HY2 : Hid (10 * Y + D j = vs D j (j + 1 + l - j)) := Lib.hid (by rw [show j + 1 + l - j = l + 1 from by omega, hv]; omega)
          have g1 : 0 ≤ 10 * Y + D j ∧ 10 * Y + D j ≤ 9223372036854775807 := by omega
          have g2 : 0 ≤ 10 * Y ∧ 10 * Y ≤ 9223372036854775807 := by omega
          clear hcell t1 t2 e0 hv hy m HY hs
          generalize D j = dj at *
          go_wp2
          go_round
          case rel => exact ⟨j, by omega, rfl, _, rfl, HY2⟩
          case measure => simp [intOf]
theorem int_two (hi lo : Int) : ∃ x e : Int, (∀ W, Calls Tryd.prog 16 #[.agg #[.int .i64 hi, .int .i64 lo]] W fun E w' => E = .returned (.tuple #[.int .i64 x, .int .i64 e]) ∧ Below W.heap.size W w') ∧
    ∀ W, Calls Tryd.prog 17 #[.agg #[.int .i64 hi, .int .i64 lo]] W fun E w' => E = .returned (.tuple #[.int .i64 x, .int .i64 e]) ∧ Below W.heap.size W w' := by
  by_cases h : Rt hi lo
  · by_cases k : Fits hi lo
    · exact ⟨_, 0, fun W => int_ok hi lo W h k, fun W => rint_ok hi lo W h k.1 k.2⟩
    · exact ⟨0, 4, fun W => int_wide hi lo W h k, fun W => rint_wide hi lo W h (by unfold Fits at k; omega)⟩
  · exact ⟨0, 1, fun W => int_arg hi lo W h, fun W => rint_arg hi lo W h⟩
end Go.Proofs.YtjndajndllimhaaDoor
