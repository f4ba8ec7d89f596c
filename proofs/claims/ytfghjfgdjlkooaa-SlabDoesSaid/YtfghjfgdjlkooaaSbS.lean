/-
  The reference limewashref13: Of, Join. (gen/SbS.py)
-/
import Derived.Test.YtfghjfgdjlkooaaSbR
import Derived.Test.YtfghjfgdjlkooaaSbC
namespace Go.Proofs.Ytfghjfgdjlkooaa
open Go.RowKit

theorem lwF_1 (F : Nat → Nat → Int) (j : Nat) : lwF F j 1 = F 0 j := by show min (F 0 j) (F 0 j) = _; omega
theorem hiF_1 (F : Nat → Nat → Int) (j : Nat) : hiF F j 1 = F 0 j := by show max (F 0 j) (F 0 j) = _; omega
set_option maxRecDepth 100000 in
set_option maxHeartbeats 8000000 in
theorem rslof_any (A : Option Addr) (n c : Nat) (F : Nat → Nat → Int) (w : World) (hr : RowK w A n 3 F) (hn : n ≤ 9223372036854775806) :
    Calls Try.prog 9 #[.slice A n c] w fun e' w' => e' = .returned (.tuple #[.agg #[.int .i64 (vF (bxY n (aS3 F n)) (lwF F 0 n)), .int .i64 (vF (bxY n (aS3 F n)) (lwF F 1 n)), .int .i64 (vF (bxY n (aS3 F n)) (lwF F 2 n)), .int .i64 (vF (bxY n (aS3 F n)) (hiF F 0 n)), .int .i64 (vF (bxY n (aS3 F n)) (hiF F 1 n)), .int .i64 (vF (bxY n (aS3 F n)) (hiF F 2 n))], .int .i64 (bxE n (aS3 F n))]) ∧ Below w.heap.size w w' := by
  have HB := Lib.hid (Below.refl w.heap.size w)
  have R := Lib.hid hr
  clear hr
  by_cases hn0 : n = 0
  · subst hn0
    rw [show bxE 0 (aS3 F 0) = 1 from rfl, show bxY 0 (aS3 F 0) = false from rfl]
    simp only [vF_no]
    clear R
    go_enter Try.func9, Try.ntmps9
    go_upto_region 1 with fail
    have hby := below_new1 w (.cells #[.int .i64 0, .int .i64 0, .int .i64 0, .int .i64 0, .int .i64 0, .int .i64 0] 25)
    have zy : (w.alloc (.cells #[.int .i64 0, .int .i64 0, .int .i64 0, .int .i64 0, .int .i64 0, .int .i64 0] 25)).heap.size = w.heap.size + 1 := by simp
    have HB := Lib.hid hby
    have ky := Lib.hid (Lok.new w 25 #[.int .i64 0, .int .i64 0, .int .i64 0, .int .i64 0, .int .i64 0, .int .i64 0])
    clear hby
    generalize w.alloc (.cells #[.int .i64 0, .int .i64 0, .int .i64 0, .int .i64 0, .int .i64 0, .int .i64 0] 25) = Vy at *
    clear zy
    have y0 := ky.out.cell (i := 0) rfl
    have y1 := ky.out.cell (i := 1) rfl
    have y2 := ky.out.cell (i := 2) rfl
    have y3 := ky.out.cell (i := 3) rfl
    have y4 := ky.out.cell (i := 4) rfl
    have y5 := ky.out.cell (i := 5) rfl
    have fy0 := ky.out.frozen 0
    have fy1 := ky.out.frozen 1
    have fy2 := ky.out.frozen 2
    have fy3 := ky.out.frozen 3
    have fy4 := ky.out.frozen 4
    have fy5 := ky.out.frozen 5
    go_wp2_with fail
    exact bodyPost_ret (v := .tuple #[.agg #[.int .i64 0, .int .i64 0, .int .i64 0, .int .i64 0, .int .i64 0, .int .i64 0], .int .i64 1]) (by simp [results, Try.results9, go_sem, y0, y1, y2, y3, y4, y5]) rfl ⟨rfl, (((((HB.out.setCell (by simp <;> omega) _).setCell (by simp <;> omega) _).setCell (by simp <;> omega) _).setCell (by simp <;> omega) _).setCell (by simp <;> omega) _).setCell (by simp <;> omega) _⟩
  · have SC := Lib.hid (fun W (h : Below w.heap.size w W) => rall3_any A n c F W (R.out.keep h) (by omega))
    cases ht : aS3 F n with
    | false =>
      rw [show bxE n false = 5 from if_neg hn0, show bxY n false = false from Bool.and_false _]
      rw [ht] at SC
      simp only [vF_no]
      clear ht R
      have hn1 : ¬ ((n : Int) = 0) := by omega
      go_enter Try.func9, Try.ntmps9
      go_upto_region 1 with fail
      have hby := below_new1 w (.cells #[.int .i64 0, .int .i64 0, .int .i64 0, .int .i64 0, .int .i64 0, .int .i64 0] 25)
      have zy : (w.alloc (.cells #[.int .i64 0, .int .i64 0, .int .i64 0, .int .i64 0, .int .i64 0, .int .i64 0] 25)).heap.size = w.heap.size + 1 := by simp
      have HB := Lib.hid hby
      have ky := Lib.hid (Lok.new w 25 #[.int .i64 0, .int .i64 0, .int .i64 0, .int .i64 0, .int .i64 0, .int .i64 0])
      clear hby
      generalize w.alloc (.cells #[.int .i64 0, .int .i64 0, .int .i64 0, .int .i64 0, .int .i64 0, .int .i64 0] 25) = Vy at *
      clear zy
      go_wp2_with fail
      (((with_reducible refine (SC.out _ HB.out).mono ?_); rintro e w1 ⟨rfl, hb1⟩); replace HB := Lib.hid (HB.out.trans (hb1.mono HB.out.size)); replace ky := Lib.hid (ky.out.keep hb1); clear hb1)
      have y0 := ky.out.cell (i := 0) rfl
      have y1 := ky.out.cell (i := 1) rfl
      have y2 := ky.out.cell (i := 2) rfl
      have y3 := ky.out.cell (i := 3) rfl
      have y4 := ky.out.cell (i := 4) rfl
      have y5 := ky.out.cell (i := 5) rfl
      have fy0 := ky.out.frozen 0
      have fy1 := ky.out.frozen 1
      have fy2 := ky.out.frozen 2
      have fy3 := ky.out.frozen 3
      have fy4 := ky.out.frozen 4
      have fy5 := ky.out.frozen 5
      clear SC
      go_wp2_with fail
      exact bodyPost_ret (v := .tuple #[.agg #[.int .i64 0, .int .i64 0, .int .i64 0, .int .i64 0, .int .i64 0, .int .i64 0], .int .i64 5]) (by simp [results, Try.results9, go_sem, y0, y1, y2, y3, y4, y5]) rfl ⟨rfl, (((((HB.out.setCell (by simp <;> omega) _).setCell (by simp <;> omega) _).setCell (by simp <;> omega) _).setCell (by simp <;> omega) _).setCell (by simp <;> omega) _).setCell (by simp <;> omega) _⟩
    | true =>
      rw [show bxE n true = 0 from if_neg hn0, show bxY n true = true from by unfold bxY; rw [decide_eq_false hn0]; rfl]
      rw [ht] at SC
      simp only [vF_yes]
      clear ht
      have hn1 : ¬ ((n : Int) = 0) := by omega
      go_enter Try.func9, Try.ntmps9
      go_upto_region 1 with fail
      have hby := below_new1 w (.cells #[.int .i64 0, .int .i64 0, .int .i64 0, .int .i64 0, .int .i64 0, .int .i64 0] 25)
      have zy : (w.alloc (.cells #[.int .i64 0, .int .i64 0, .int .i64 0, .int .i64 0, .int .i64 0, .int .i64 0] 25)).heap.size = w.heap.size + 1 := by simp
      have HB := Lib.hid hby
      have ky := Lib.hid (Lok.new w 25 #[.int .i64 0, .int .i64 0, .int .i64 0, .int .i64 0, .int .i64 0, .int .i64 0])
      clear hby
      generalize w.alloc (.cells #[.int .i64 0, .int .i64 0, .int .i64 0, .int .i64 0, .int .i64 0, .int .i64 0] 25) = Vy at *
      clear zy
      go_wp2_with fail
      (((with_reducible refine (SC.out _ HB.out).mono ?_); rintro e w1 ⟨rfl, hb1⟩); replace HB := Lib.hid (HB.out.trans (hb1.mono HB.out.size)); replace ky := Lib.hid (ky.out.keep hb1); clear hb1)
      clear SC
      obtain ⟨b, o, rfl, hb, hc⟩ := (R.out.keep HB.out).at (show 0 < n by omega)
      have a0 := hc 0 (by omega) 0 (by omega)
      have a1 := hc 0 (by omega) 1 (by omega)
      have a2 := hc 0 (by omega) 2 (by omega)
      simp only [Nat.zero_mul, Nat.add_zero, Nat.zero_add] at a0 a1 a2
      have hg : w.heap.size < w1.heap.size := ky.out.lt
      clear hc
      have m1 : (0 : Int) < (n : Int) := by omega
      have m0 : 0 < n := by omega
      go_upto_region 5 with fail
      refine wp_region_rel (by kernel_rfl) [15, 16, 17, 18, 19, 20, 21, 4] ?Fr1 ?hFr1
        (fun L u W => Below w1.heap.size w1 W ∧ (L 0 = true → u 15 = .slice (some ⟨b, o, none⟩) n c) ∧ (L 1 = true → u 16 = .pointer (some ⟨b, o, none⟩)) ∧ (L 2 = true → u 17 = .agg #[.int .i64 (F 0 0), .int .i64 (F 0 1), .int .i64 (F 0 2)]) ∧ (L 3 = true → u 18 = .slice (some ⟨b, o, none⟩) n c) ∧ (L 4 = true → u 19 = .pointer (some ⟨b, o, none⟩)) ∧ (L 5 = true → u 20 = .agg #[.int .i64 (F 0 0), .int .i64 (F 0 1), .int .i64 (F 0 2)]) ∧ (L 6 = true → u 21 = .agg #[.int .i64 (F 0 0), .int .i64 (F 0 1), .int .i64 (F 0 2), .int .i64 (F 0 0), .int .i64 (F 0 1), .int .i64 (F 0 2)]) ∧ (L 7 = true → ∃ (g : Nat) (x7_0 x7_1 x7_2 x7_3 x7_4 x7_5 : Value), u 4 = .pointer (some ⟨g, 0, none⟩) ∧ w1.heap.size ≤ g ∧ Lok W g 25 #[x7_0, x7_1, x7_2, x7_3, x7_4, x7_5] ∧ (L 8 = true → x7_0 = .int .i64 (F 0 0) ∧ x7_1 = .int .i64 (F 0 1) ∧ x7_2 = .int .i64 (F 0 2) ∧ x7_3 = .int .i64 (F 0 0) ∧ x7_4 = .int .i64 (F 0 1) ∧ x7_5 = .int .i64 (F 0 2))) ∧ (L 8 = true → L 7 = true)) (by kernel_rfl) (by kernel_rfl) 9 rfl ?h0r1 ?stepr1 ?finr1
      case hFr1 => intro u; simp only [putAll, Act.put, List.setIfInBounds_toArray, List.set]; exact rfl
      case h0r1 => intro L u hL; exact ⟨(Below.refl _ _).drew, (fun h => by simp [hL] at h), (fun h => by simp [hL] at h), (fun h => by simp [hL] at h), (fun h => by simp [hL] at h), (fun h => by simp [hL] at h), (fun h => by simp [hL] at h), (fun h => by simp [hL] at h), (fun h => by simp [hL] at h), (fun h => by simp [hL] at h)⟩
      case stepr1 =>
        refine ops_all (ops_cons ?s0r1 (ops_cons ?s1r1 (ops_cons ?s2r1 (ops_cons ?s3r1 (ops_cons ?s4r1 (ops_cons ?s5r1 (ops_cons ?s6r1 (ops_cons ?s7r1 (ops_cons ?s8r1 (ops_nil))))))))))
        case s0r1 =>
          rintro L u W ⟨hB, c0, c1, c2, c3, c4, c5, c6, c7, d8⟩ hf hd K hK
          dsimp only at hK
          clear hd
          go_simp
          refine hK _ _ ?_ (fun h => by cases h)
          intro s hs
          cases hs
          exact ⟨hB, (fun _ => rfl), c1, c2, c3, c4, c5, c6, c7, d8⟩
        case s1r1 =>
          rintro L u W ⟨hB, c0, c1, c2, c3, c4, c5, c6, c7, d8⟩ hf hd K hK
          dsimp only at hK
          have hd0 : L 0 = true := (by first | (refine hd ⟨0, .data⟩ ?_ rfl; simp; done) | (refine hd ⟨0, .guard⟩ ?_ rfl; simp; done) | (refine hd ⟨0, .phase⟩ ?_ rfl; simp; done) | (refine hd ⟨0, .chain⟩ ?_ rfl; simp; done))
          have e0 := c0 hd0
          rw [e0] at hK
          clear hd0
          clear hd
          go_simp
          refine hK _ _ ?_ (fun h => by cases h)
          intro s hs
          cases hs
          exact ⟨hB, c0, (fun _ => rfl), c2, c3, c4, c5, c6, c7, d8⟩
        case s2r1 =>
          rintro L u W ⟨hB, c0, c1, c2, c3, c4, c5, c6, c7, d8⟩ hf hd K hK
          dsimp only at hK
          have hd1 : L 1 = true := (by first | (refine hd ⟨1, .data⟩ ?_ rfl; simp; done) | (refine hd ⟨1, .guard⟩ ?_ rfl; simp; done) | (refine hd ⟨1, .phase⟩ ?_ rfl; simp; done) | (refine hd ⟨1, .chain⟩ ?_ rfl; simp; done))
          have e1 := c1 hd1
          rw [e1] at hK
          have t0 := keepc hB a0
          have t1 := keepc hB a1
          have t2 := keepc hB a2
          clear hd1
          clear hd
          go_simp
          refine hK _ _ ?_ (fun h => by cases h)
          intro s hs
          cases hs
          exact ⟨hB, c0, c1, (fun _ => rfl), c3, c4, c5, c6, c7, d8⟩
        case s3r1 =>
          rintro L u W ⟨hB, c0, c1, c2, c3, c4, c5, c6, c7, d8⟩ hf hd K hK
          dsimp only at hK
          clear hd
          go_simp
          refine hK _ _ ?_ (fun h => by cases h)
          intro s hs
          cases hs
          exact ⟨hB, c0, c1, c2, (fun _ => rfl), c4, c5, c6, c7, d8⟩
        case s4r1 =>
          rintro L u W ⟨hB, c0, c1, c2, c3, c4, c5, c6, c7, d8⟩ hf hd K hK
          dsimp only at hK
          have hd3 : L 3 = true := (by first | (refine hd ⟨3, .data⟩ ?_ rfl; simp; done) | (refine hd ⟨3, .guard⟩ ?_ rfl; simp; done) | (refine hd ⟨3, .phase⟩ ?_ rfl; simp; done) | (refine hd ⟨3, .chain⟩ ?_ rfl; simp; done))
          have e3 := c3 hd3
          rw [e3] at hK
          clear hd3
          clear hd
          go_simp
          refine hK _ _ ?_ (fun h => by cases h)
          intro s hs
          cases hs
          exact ⟨hB, c0, c1, c2, c3, (fun _ => rfl), c5, c6, c7, d8⟩
        case s5r1 =>
          rintro L u W ⟨hB, c0, c1, c2, c3, c4, c5, c6, c7, d8⟩ hf hd K hK
          dsimp only at hK
          have hd4 : L 4 = true := (by first | (refine hd ⟨4, .data⟩ ?_ rfl; simp; done) | (refine hd ⟨4, .guard⟩ ?_ rfl; simp; done) | (refine hd ⟨4, .phase⟩ ?_ rfl; simp; done) | (refine hd ⟨4, .chain⟩ ?_ rfl; simp; done))
          have e4 := c4 hd4
          rw [e4] at hK
          have t0 := keepc hB a0
          have t1 := keepc hB a1
          have t2 := keepc hB a2
          clear hd4
          clear hd
          go_simp
          refine hK _ _ ?_ (fun h => by cases h)
          intro s hs
          cases hs
          exact ⟨hB, c0, c1, c2, c3, c4, (fun _ => rfl), c6, c7, d8⟩
        case s6r1 =>
          rintro L u W ⟨hB, c0, c1, c2, c3, c4, c5, c6, c7, d8⟩ hf hd K hK
          dsimp only at hK
          have hd2 : L 2 = true := (by first | (refine hd ⟨2, .data⟩ ?_ rfl; simp; done) | (refine hd ⟨2, .guard⟩ ?_ rfl; simp; done) | (refine hd ⟨2, .phase⟩ ?_ rfl; simp; done) | (refine hd ⟨2, .chain⟩ ?_ rfl; simp; done))
          have hd5 : L 5 = true := (by first | (refine hd ⟨5, .data⟩ ?_ rfl; simp; done) | (refine hd ⟨5, .guard⟩ ?_ rfl; simp; done) | (refine hd ⟨5, .phase⟩ ?_ rfl; simp; done) | (refine hd ⟨5, .chain⟩ ?_ rfl; simp; done))
          have e2 := c2 hd2
          rw [e2] at hK
          have e5 := c5 hd5
          rw [e5] at hK
          clear hd2
          clear hd5
          clear hd
          go_simp
          refine hK _ _ ?_ (fun h => by cases h)
          intro s hs
          cases hs
          exact ⟨hB, c0, c1, c2, c3, c4, c5, (fun _ => rfl), c7, d8⟩
        case s7r1 =>
          rintro L u W ⟨hB, c0, c1, c2, c3, c4, c5, c6, c7, d8⟩ hf hd K hK
          dsimp only at hK
          go_simp
          have hb : Below W.heap.size W (W.alloc (.cells #[.int .i64 0, .int .i64 0, .int .i64 0, .int .i64 0, .int .i64 0, .int .i64 0] 25)) := (Below.refl _ W).alloc (Nat.le_refl _) _
          refine hK _ _ ?_ (fun h => by cases h)
          intro s hs
          cases hs
          exact ⟨hB.trans (hb.mono hB.size), c0, c1, c2, c3, c4, c5, c6, (fun _ => ⟨_, _, _, _, _, _, _, rfl, hB.size, Lok.new _ _ _, fun h => absurd (d8 h) (by rw [hf]; decide)⟩), (fun _ => rfl)⟩
        case s8r1 =>
          rintro L u W ⟨hB, c0, c1, c2, c3, c4, c5, c6, c7, d8⟩ hf hd K hK
          dsimp only at hK
          have hd7 : L 7 = true := hd ⟨7, .data⟩ (by simp) rfl
          have hd6 : L 6 = true := (by first | (refine hd ⟨6, .data⟩ ?_ rfl; simp; done) | (refine hd ⟨6, .guard⟩ ?_ rfl; simp; done) | (refine hd ⟨6, .phase⟩ ?_ rfl; simp; done) | (refine hd ⟨6, .chain⟩ ?_ rfl; simp; done))
          obtain ⟨g, x7_0, x7_1, x7_2, x7_3, x7_4, x7_5, e7, k2, k3, k4⟩ := c7 hd7
          rw [e7] at hK
          have e6 := c6 hd6
          rw [e6] at hK
          have t0 := k3.cell (i := 0) rfl
          have f0 := k3.frozen 0
          have t1 := k3.cell (i := 1) rfl
          have f1 := k3.frozen 1
          have t2 := k3.cell (i := 2) rfl
          have f2 := k3.frozen 2
          have t3 := k3.cell (i := 3) rfl
          have f3 := k3.frozen 3
          have t4 := k3.cell (i := 4) rfl
          have f4 := k3.frozen 4
          have t5 := k3.cell (i := 5) rfl
          have f5 := k3.frozen 5
          have HH := Lib.hid (And.intro trivial trivial)
          clear hd
          have hd7' := Lib.hid hd7
          clear hd7
          have hd6' := Lib.hid hd6
          clear hd6
          go_simp
          have hd7 := hd7'.out
          have hd6 := hd6'.out
          have hlok := (((((k3.set (i := 0) (v := .int .i64 (F 0 0))).set (i := 1) (v := .int .i64 (F 0 1))).set (i := 2) (v := .int .i64 (F 0 2))).set (i := 3) (v := .int .i64 (F 0 0))).set (i := 4) (v := .int .i64 (F 0 1))).set (i := 5) (v := .int .i64 (F 0 2))
          refine hK undef _ (fun s h => by cases h) (fun _ => ?_)
          exact ⟨(((((hB.setCell k2 _).setCell k2 _).setCell k2 _).setCell k2 _).setCell k2 _).setCell k2 _, c0, c1, c2, c3, c4, c5, (fun _ => rfl), (fun _ => ⟨g, _, _, _, _, _, _, rfl, k2, hlok, fun _ => ⟨rfl, rfl, rfl, rfl, rfl, rfl⟩⟩), (fun _ => hd7)⟩
      case finr1 =>
        rintro L u W hL ⟨hB, c0, c1, c2, c3, c4, c5, c6, c7, d8⟩
        have e0 := c0 (hL 0 (by decide))
        have e1 := c1 (hL 1 (by decide))
        have e2 := c2 (hL 2 (by decide))
        have e3 := c3 (hL 3 (by decide))
        have e4 := c4 (hL 4 (by decide))
        have e5 := c5 (hL 5 (by decide))
        have e6 := c6 (hL 6 (by decide))
        obtain ⟨g7, x7_0, x7_1, x7_2, x7_3, x7_4, x7_5, e7, hg7, hlok7, hst7⟩ := c7 (hL 7 (by decide))
        obtain ⟨rfl, rfl, rfl, rfl, rfl, rfl⟩ := hst7 (hL 8 (by decide))
        clear hst7
        clear hL c0 c1 c2 c3 c4 c5 c6 c7 d8
        try simp only [e0, e1, e2, e3, e4, e5, e6, e7]
        clear e0 e1 e2 e3 e4 e5 e6 e7
        replace HB := Lib.hid (HB.out.trans (hB.mono HB.out.size))
        have KY := Lib.hid (ky.out.keep hB)
        have n4 : w.heap.size < g7 := by omega
        have k4 := hlok7
        rw [← lwF_1 F 0, ← lwF_1 F 1, ← lwF_1 F 2] at k4
        have K4 : Hid (Lok W g7 25 #[.int .i64 (lwF F 0 1), .int .i64 (lwF F 1 1), .int .i64 (lwF F 2 1), .int .i64 (hiF F 0 1), .int .i64 (hiF F 1 1), .int .i64 (hiF F 2 1)]) := Lib.hid (by
          have z := hlok7
          rw [show F 0 0 = lwF F 0 1 from (lwF_1 F 0).symm, show F 0 1 = lwF F 1 1 from (lwF_1 F 1).symm, show F 0 2 = lwF F 2 1 from (lwF_1 F 2).symm] at z
          rw [show hiF F 0 1 = lwF F 0 1 from by rw [lwF_1, hiF_1], show hiF F 1 1 = lwF F 1 1 from by rw [lwF_1, hiF_1], show hiF F 2 1 = lwF F 2 1 from by rw [lwF_1, hiF_1]]
          exact z)
        clear hB hlok7 a0 a1 a2 ky hg hg7 k4
        go_wp2_with fail
        go_loopw [5] (fun y wr => ∃ k : Nat, y = .int .i64 k ∧ 1 ≤ k ∧ k ≤ n ∧ Below w.heap.size w wr ∧ Lok wr w.heap.size 25 #[.int .i64 0, .int .i64 0, .int .i64 0, .int .i64 0, .int .i64 0, .int .i64 0] ∧ Lok wr g7 25 #[.int .i64 (lwF F 0 k), .int .i64 (lwF F 1 k), .int .i64 (lwF F 2 k), .int .i64 (hiF F 0 k), .int .i64 (hiF F 1 k), .int .i64 (hiF F 2 k)]) (fun y _ => n - (intOf y).toNat)
        case atStart => exact ⟨1, rfl, Nat.le_refl _, by omega, HB.out, KY.out, K4.out⟩
        case round =>
          clear HB K4 KY
          obtain ⟨k, rfl, hk1, hk, hB, hY, h4⟩ := hrel
          have HB := Lib.hid hB
          have KY := Lib.hid hY
          have K4 := Lib.hid h4
          clear hB hY h4
          by_cases hlt : k < n
          · obtain ⟨b, o, hbo, hb, hc⟩ := (R.out.keep HB.out).at hlt
            cases hbo
            have c0 := hc k hlt 0 (by omega)
            have c1 := hc k hlt 1 (by omega)
            have c2 := hc k hlt 2 (by omega)
            rw [Nat.add_zero] at c0
            rw [← Nat.add_assoc] at c1 c2
            clear hc
            have E : Hid ((lwF F 0 (k + 1) = min (lwF F 0 k) (F k 0) ∧ lwF F 1 (k + 1) = min (lwF F 1 k) (F k 1) ∧ lwF F 2 (k + 1) = min (lwF F 2 k) (F k 2)) ∧ hiF F 0 (k + 1) = max (hiF F 0 k) (F k 0) ∧ hiF F 1 (k + 1) = max (hiF F 1 k) (F k 1) ∧ hiF F 2 (k + 1) = max (hiF F 2 k) (F k 2)) := Lib.hid ⟨⟨rfl, rfl, rfl⟩, rfl, rfl, rfl⟩
            generalize F k 0 = x1 at *
            generalize F k 1 = x2 at *
            generalize F k 2 = x3 at *
            generalize lwF F 0 k = l1 at *
            generalize lwF F 1 k = l2 at *
            generalize lwF F 2 k = l3 at *
            generalize hiF F 0 k = h1 at *
            generalize hiF F 1 k = h2 at *
            generalize hiF F 2 k = h3 at *
            have i0 : (0 : Int) ≤ (k : Int) := by omega
            have i1 : (k : Int) < (n : Int) := by omega
            have i2 : ((k : Int)).toNat = k := by omega
            clear hk1
            have hk7 : g7 < wr.heap.size := K4.out.lt
            go_upto_region 10 with fail
            have hbp := below_new1 wr (.cells #[.int .i64 x1, .int .i64 x2, .int .i64 x3] 23)
            replace KY := Lib.hid (KY.out.keep hbp)
            replace K4 := Lib.hid (K4.out.keep hbp)
            have zp : (wr.alloc (.cells #[.int .i64 x1, .int .i64 x2, .int .i64 x3] 23)).heap.size = wr.heap.size + 1 := by simp
            replace HB := Lib.hid (HB.out.trans (hbp.mono HB.out.size))
            have kp := Lib.hid (Lok.new wr 23 #[.int .i64 x1, .int .i64 x2, .int .i64 x3])
            clear hbp
            generalize wr.alloc (.cells #[.int .i64 x1, .int .i64 x2, .int .i64 x3] 23) = Vp at *
            clear zp c0 c1 c2
            have p0 := kp.out.cell (i := 0) rfl
            have p1 := kp.out.cell (i := 1) rfl
            have p2 := kp.out.cell (i := 2) rfl
            have y0 := K4.out.cell (i := 0) rfl
            have fy0 := K4.out.frozen 0
            have y1 := K4.out.cell (i := 1) rfl
            have fy1 := K4.out.frozen 1
            have y2 := K4.out.cell (i := 2) rfl
            have fy2 := K4.out.frozen 2
            have y3 := K4.out.cell (i := 3) rfl
            have fy3 := K4.out.frozen 3
            have y4 := K4.out.cell (i := 4) rfl
            have fy4 := K4.out.frozen 4
            have y5 := K4.out.cell (i := 5) rfl
            have fy5 := K4.out.frozen 5
            go_wp2_with fail
            go_roundw
            case rel =>
              refine ⟨k + 1, by go_num, by omega, hlt, ?_, ?_, ?_⟩
              · exact (((((HB.out.setCell (by simp <;> omega) _).setCell (by simp <;> omega) _).setCell (by simp <;> omega) _).setCell (by simp <;> omega) _).setCell (by simp <;> omega) _).setCell (by simp <;> omega) _
              · exact (((((KY.out.far (by omega)).far (by omega)).far (by omega)).far (by omega)).far (by omega)).far (by omega)
              · rw [E.out.1.1, E.out.1.2.1, E.out.1.2.2, E.out.2.1, E.out.2.2.1, E.out.2.2.2]
                exact (((((K4.out.set (i := 0) (v := .int .i64 (min l1 x1))).set (i := 1) (v := .int .i64 (min l2 x2))).set (i := 2) (v := .int .i64 (min l3 x3))).set (i := 3) (v := .int .i64 (max h1 x1))).set (i := 4) (v := .int .i64 (max h2 x2))).set (i := 5) (v := .int .i64 (max h3 x3))
            case measure => simp [intOf]; omega
          · obtain rfl : k = n := by omega
            generalize e1 : lwF F 0 k = l1 at *
            generalize e2 : lwF F 1 k = l2 at *
            generalize e3 : lwF F 2 k = l3 at *
            generalize e4 : hiF F 0 k = h1 at *
            generalize e5 : hiF F 1 k = h2 at *
            generalize e6 : hiF F 2 k = h3 at *
            have E := Lib.hid (And.intro e1 (And.intro e2 (And.intro e3 (And.intro e4 (And.intro e5 e6)))))
            clear e1 e2 e3 e4 e5 e6
            have a0 := K4.out.cell (i := 0) rfl
            have y0 := KY.out.cell (i := 0) rfl
            have fy0 := KY.out.frozen 0
            have a1 := K4.out.cell (i := 1) rfl
            have y1 := KY.out.cell (i := 1) rfl
            have fy1 := KY.out.frozen 1
            have a2 := K4.out.cell (i := 2) rfl
            have y2 := KY.out.cell (i := 2) rfl
            have fy2 := KY.out.frozen 2
            have a3 := K4.out.cell (i := 3) rfl
            have y3 := KY.out.cell (i := 3) rfl
            have fy3 := KY.out.frozen 3
            have a4 := K4.out.cell (i := 4) rfl
            have y4 := KY.out.cell (i := 4) rfl
            have fy4 := KY.out.frozen 4
            have a5 := K4.out.cell (i := 5) rfl
            have y5 := KY.out.cell (i := 5) rfl
            have fy5 := KY.out.frozen 5
            go_wp2_with fail
            exact bodyPost_ret (v := .tuple #[.agg #[.int .i64 l1, .int .i64 l2, .int .i64 l3, .int .i64 h1, .int .i64 h2, .int .i64 h3], .int .i64 0]) (by simp [results, Try.results9, go_sem, y0, y1, y2, y3, y4, y5]) rfl ⟨by rw [E.out.1, E.out.2.1, E.out.2.2.1, E.out.2.2.2.1, E.out.2.2.2.2.1, E.out.2.2.2.2.2], (((((HB.out.setCell (by simp <;> omega) _).setCell (by simp <;> omega) _).setCell (by simp <;> omega) _).setCell (by simp <;> omega) _).setCell (by simp <;> omega) _).setCell (by simp <;> omega) _⟩
theorem rslof_4 (a1 a2 a3 b1 b2 b3 c1 c2 c3 d1 d2 d3 : Int) (t : Bool) (ht : (s3 a1 a2 a3 && s3 b1 b2 b3 && s3 c1 c2 c3 && s3 d1 d2 d3) = t) (g : Nat) (T : TypeId) (w : World) (h : Lok w g T #[.int .i64 a1, .int .i64 a2, .int .i64 a3, .int .i64 b1, .int .i64 b2, .int .i64 b3, .int .i64 c1, .int .i64 c2, .int .i64 c3, .int .i64 d1, .int .i64 d2, .int .i64 d3]) :
    Calls Try.prog 9 #[.slice (some ⟨g, 0, none⟩) 4 4] w fun e' w' => e' = .returned (.tuple #[.agg #[.int .i64 (vF t (min (min (min a1 b1) c1) d1)), .int .i64 (vF t (min (min (min a2 b2) c2) d2)), .int .i64 (vF t (min (min (min a3 b3) c3) d3)), .int .i64 (vF t (max (max (max a1 b1) c1) d1)), .int .i64 (vF t (max (max (max a2 b2) c2) d2)), .int .i64 (vF t (max (max (max a3 b3) c3) d3))], .int .i64 (rE t)]) ∧ Below w.heap.size w w' := by
  have q := rslof_any _ 4 4 _ w (rowK_ints (n := 4) (k := 3) [a1, a2, a3, b1, b2, b3, c1, c2, c3, d1, d2, d3] h rfl) (by omega)
  rw [show aS3 (rowOf 3 [a1, a2, a3, b1, b2, b3, c1, c2, c3, d1, d2, d3]) 4 = t from by rw [← ht]; simp [aS3, allB, rowOf], bxE_n (by decide), bxY_n (by decide)] at q
  rw [show lwF (rowOf 3 [a1, a2, a3, b1, b2, b3, c1, c2, c3, d1, d2, d3]) 0 4 = min (min (min a1 b1) c1) d1 from by simp [lwF, rowOf, Int.min_self], show hiF (rowOf 3 [a1, a2, a3, b1, b2, b3, c1, c2, c3, d1, d2, d3]) 0 4 = max (max (max a1 b1) c1) d1 from by simp [hiF, rowOf, Int.max_self]] at q
  rw [show lwF (rowOf 3 [a1, a2, a3, b1, b2, b3, c1, c2, c3, d1, d2, d3]) 1 4 = min (min (min a2 b2) c2) d2 from by simp [lwF, rowOf, Int.min_self], show hiF (rowOf 3 [a1, a2, a3, b1, b2, b3, c1, c2, c3, d1, d2, d3]) 1 4 = max (max (max a2 b2) c2) d2 from by simp [hiF, rowOf, Int.max_self]] at q
  rw [show lwF (rowOf 3 [a1, a2, a3, b1, b2, b3, c1, c2, c3, d1, d2, d3]) 2 4 = min (min (min a3 b3) c3) d3 from by simp [lwF, rowOf, Int.min_self], show hiF (rowOf 3 [a1, a2, a3, b1, b2, b3, c1, c2, c3, d1, d2, d3]) 2 4 = max (max (max a3 b3) c3) d3 from by simp [hiF, rowOf, Int.max_self]] at q
  exact q
set_option maxRecDepth 100000 in
set_option maxHeartbeats 8000000 in
theorem rsljoin_any (l1 l2 l3 h1 h2 h3 m1 m2 m3 k1 k2 k3 : Int) (w : World) :
    Calls Try.prog 11 #[.agg #[.int .i64 l1, .int .i64 l2, .int .i64 l3, .int .i64 h1, .int .i64 h2, .int .i64 h3], .agg #[.int .i64 m1, .int .i64 m2, .int .i64 m3, .int .i64 k1, .int .i64 k2, .int .i64 k3]] w fun e' w' => e' = .returned (.tuple #[.agg #[.int .i64 (vF (bxR l1 l2 l3 h1 h2 h3 && bxR m1 m2 m3 k1 k2 k3) (min l1 m1)), .int .i64 (vF (bxR l1 l2 l3 h1 h2 h3 && bxR m1 m2 m3 k1 k2 k3) (min l2 m2)), .int .i64 (vF (bxR l1 l2 l3 h1 h2 h3 && bxR m1 m2 m3 k1 k2 k3) (min l3 m3)), .int .i64 (vF (bxR l1 l2 l3 h1 h2 h3 && bxR m1 m2 m3 k1 k2 k3) (max h1 k1)), .int .i64 (vF (bxR l1 l2 l3 h1 h2 h3 && bxR m1 m2 m3 k1 k2 k3) (max h2 k2)), .int .i64 (vF (bxR l1 l2 l3 h1 h2 h3 && bxR m1 m2 m3 k1 k2 k3) (max h3 k3))], .int .i64 (aE (bxR l1 l2 l3 h1 h2 h3 && bxR m1 m2 m3 k1 k2 k3))]) ∧ Below w.heap.size w w' := by
  have HB := Lib.hid (Below.refl w.heap.size w)
  have S1 := Lib.hid (fun W => rslis_any l1 l2 l3 h1 h2 h3 W)
  have S2 := Lib.hid (fun W => rslis_any m1 m2 m3 k1 k2 k3 W)
  cases h1' : bxR l1 l2 l3 h1 h2 h3 with
  | false =>
    rw [h1'] at S1
    rw [Bool.false_and, show aE false = 1 from rfl]
    simp only [vF_no]
    clear h1' S2
    go_enter Try.func11, Try.ntmps11
    go_upto_region 1 with fail
    have hba := below_new1 w (.cells #[.int .i64 l1, .int .i64 l2, .int .i64 l3, .int .i64 h1, .int .i64 h2, .int .i64 h3] 25)
    have za : (w.alloc (.cells #[.int .i64 l1, .int .i64 l2, .int .i64 l3, .int .i64 h1, .int .i64 h2, .int .i64 h3] 25)).heap.size = w.heap.size + 1 := by simp
    have HB := Lib.hid hba
    have ka := Lib.hid (Lok.new w 25 #[.int .i64 l1, .int .i64 l2, .int .i64 l3, .int .i64 h1, .int .i64 h2, .int .i64 h3])
    clear hba
    generalize w.alloc (.cells #[.int .i64 l1, .int .i64 l2, .int .i64 l3, .int .i64 h1, .int .i64 h2, .int .i64 h3] 25) = Va at *
    have hbb := below_new1 Va (.cells #[.int .i64 m1, .int .i64 m2, .int .i64 m3, .int .i64 k1, .int .i64 k2, .int .i64 k3] 25)
    replace ka := Lib.hid (ka.out.keep hbb)
    have zb : (Va.alloc (.cells #[.int .i64 m1, .int .i64 m2, .int .i64 m3, .int .i64 k1, .int .i64 k2, .int .i64 k3] 25)).heap.size = Va.heap.size + 1 := by simp
    replace HB := Lib.hid (HB.out.trans (hbb.mono HB.out.size))
    have kb := Lib.hid (Lok.new Va 25 #[.int .i64 m1, .int .i64 m2, .int .i64 m3, .int .i64 k1, .int .i64 k2, .int .i64 k3])
    clear hbb
    generalize Va.alloc (.cells #[.int .i64 m1, .int .i64 m2, .int .i64 m3, .int .i64 k1, .int .i64 k2, .int .i64 k3] 25) = Vb at *
    rw [za] at kb zb
    have hby := below_new1 Vb (.cells #[.int .i64 0, .int .i64 0, .int .i64 0, .int .i64 0, .int .i64 0, .int .i64 0] 25)
    replace ka := Lib.hid (ka.out.keep hby)
    replace kb := Lib.hid (kb.out.keep hby)
    have zy : (Vb.alloc (.cells #[.int .i64 0, .int .i64 0, .int .i64 0, .int .i64 0, .int .i64 0, .int .i64 0] 25)).heap.size = Vb.heap.size + 1 := by simp
    replace HB := Lib.hid (HB.out.trans (hby.mono HB.out.size))
    have ky := Lib.hid (Lok.new Vb 25 #[.int .i64 0, .int .i64 0, .int .i64 0, .int .i64 0, .int .i64 0, .int .i64 0])
    clear hby
    generalize Vb.alloc (.cells #[.int .i64 0, .int .i64 0, .int .i64 0, .int .i64 0, .int .i64 0, .int .i64 0] 25) = Vy at *
    rw [zb] at ky
    clear za zb zy
    have a0 := ka.out.cell (i := 0) rfl
    have a1 := ka.out.cell (i := 1) rfl
    have a2 := ka.out.cell (i := 2) rfl
    have a3 := ka.out.cell (i := 3) rfl
    have a4 := ka.out.cell (i := 4) rfl
    have a5 := ka.out.cell (i := 5) rfl
    have b0 := kb.out.cell (i := 0) rfl
    have b1 := kb.out.cell (i := 1) rfl
    have b2 := kb.out.cell (i := 2) rfl
    have b3 := kb.out.cell (i := 3) rfl
    have b4 := kb.out.cell (i := 4) rfl
    have b5 := kb.out.cell (i := 5) rfl
    go_wp2_with fail
    clear a0 a1 a2 a3 a4 a5 b0 b1 b2 b3 b4 b5
    (((with_reducible refine (S1.out _).mono ?_); rintro e w1 ⟨rfl, hb1⟩); replace HB := Lib.hid (HB.out.trans (hb1.mono HB.out.size)); replace ka := Lib.hid (ka.out.keep hb1); replace kb := Lib.hid (kb.out.keep hb1); replace ky := Lib.hid (ky.out.keep hb1); clear hb1)
    clear S1 ka kb
    have y0 := ky.out.cell (i := 0) rfl
    have y1 := ky.out.cell (i := 1) rfl
    have y2 := ky.out.cell (i := 2) rfl
    have y3 := ky.out.cell (i := 3) rfl
    have y4 := ky.out.cell (i := 4) rfl
    have y5 := ky.out.cell (i := 5) rfl
    have fy0 := ky.out.frozen 0
    have fy1 := ky.out.frozen 1
    have fy2 := ky.out.frozen 2
    have fy3 := ky.out.frozen 3
    have fy4 := ky.out.frozen 4
    have fy5 := ky.out.frozen 5
    go_wp2_with fail
    exact bodyPost_ret (v := .tuple #[.agg #[.int .i64 0, .int .i64 0, .int .i64 0, .int .i64 0, .int .i64 0, .int .i64 0], .int .i64 1]) (by simp [results, Try.results11, go_sem, y0, y1, y2, y3, y4, y5]) rfl ⟨rfl, (((((HB.out.setCell (by simp <;> omega) _).setCell (by simp <;> omega) _).setCell (by simp <;> omega) _).setCell (by simp <;> omega) _).setCell (by simp <;> omega) _).setCell (by simp <;> omega) _⟩
  | true =>
    cases h2' : bxR m1 m2 m3 k1 k2 k3 with
    | false =>
      rw [h1'] at S1
      rw [h2'] at S2
      rw [Bool.true_and, show aE false = 1 from rfl]
      simp only [vF_no]
      clear h1' h2'
      go_enter Try.func11, Try.ntmps11
      go_upto_region 1 with fail
      have hba := below_new1 w (.cells #[.int .i64 l1, .int .i64 l2, .int .i64 l3, .int .i64 h1, .int .i64 h2, .int .i64 h3] 25)
      have za : (w.alloc (.cells #[.int .i64 l1, .int .i64 l2, .int .i64 l3, .int .i64 h1, .int .i64 h2, .int .i64 h3] 25)).heap.size = w.heap.size + 1 := by simp
      have HB := Lib.hid hba
      have ka := Lib.hid (Lok.new w 25 #[.int .i64 l1, .int .i64 l2, .int .i64 l3, .int .i64 h1, .int .i64 h2, .int .i64 h3])
      clear hba
      generalize w.alloc (.cells #[.int .i64 l1, .int .i64 l2, .int .i64 l3, .int .i64 h1, .int .i64 h2, .int .i64 h3] 25) = Va at *
      have hbb := below_new1 Va (.cells #[.int .i64 m1, .int .i64 m2, .int .i64 m3, .int .i64 k1, .int .i64 k2, .int .i64 k3] 25)
      replace ka := Lib.hid (ka.out.keep hbb)
      have zb : (Va.alloc (.cells #[.int .i64 m1, .int .i64 m2, .int .i64 m3, .int .i64 k1, .int .i64 k2, .int .i64 k3] 25)).heap.size = Va.heap.size + 1 := by simp
      replace HB := Lib.hid (HB.out.trans (hbb.mono HB.out.size))
      have kb := Lib.hid (Lok.new Va 25 #[.int .i64 m1, .int .i64 m2, .int .i64 m3, .int .i64 k1, .int .i64 k2, .int .i64 k3])
      clear hbb
      generalize Va.alloc (.cells #[.int .i64 m1, .int .i64 m2, .int .i64 m3, .int .i64 k1, .int .i64 k2, .int .i64 k3] 25) = Vb at *
      rw [za] at kb zb
      have hby := below_new1 Vb (.cells #[.int .i64 0, .int .i64 0, .int .i64 0, .int .i64 0, .int .i64 0, .int .i64 0] 25)
      replace ka := Lib.hid (ka.out.keep hby)
      replace kb := Lib.hid (kb.out.keep hby)
      have zy : (Vb.alloc (.cells #[.int .i64 0, .int .i64 0, .int .i64 0, .int .i64 0, .int .i64 0, .int .i64 0] 25)).heap.size = Vb.heap.size + 1 := by simp
      replace HB := Lib.hid (HB.out.trans (hby.mono HB.out.size))
      have ky := Lib.hid (Lok.new Vb 25 #[.int .i64 0, .int .i64 0, .int .i64 0, .int .i64 0, .int .i64 0, .int .i64 0])
      clear hby
      generalize Vb.alloc (.cells #[.int .i64 0, .int .i64 0, .int .i64 0, .int .i64 0, .int .i64 0, .int .i64 0] 25) = Vy at *
      rw [zb] at ky
      clear za zb zy
      have a0 := ka.out.cell (i := 0) rfl
      have a1 := ka.out.cell (i := 1) rfl
      have a2 := ka.out.cell (i := 2) rfl
      have a3 := ka.out.cell (i := 3) rfl
      have a4 := ka.out.cell (i := 4) rfl
      have a5 := ka.out.cell (i := 5) rfl
      have b0 := kb.out.cell (i := 0) rfl
      have b1 := kb.out.cell (i := 1) rfl
      have b2 := kb.out.cell (i := 2) rfl
      have b3 := kb.out.cell (i := 3) rfl
      have b4 := kb.out.cell (i := 4) rfl
      have b5 := kb.out.cell (i := 5) rfl
      go_wp2_with fail
      clear a0 a1 a2 a3 a4 a5 b0 b1 b2 b3 b4 b5
      (((with_reducible refine (S1.out _).mono ?_); rintro e w1 ⟨rfl, hb1⟩); replace HB := Lib.hid (HB.out.trans (hb1.mono HB.out.size)); replace ka := Lib.hid (ka.out.keep hb1); replace kb := Lib.hid (kb.out.keep hb1); replace ky := Lib.hid (ky.out.keep hb1); clear hb1)
      have a0 := ka.out.cell (i := 0) rfl
      have a1 := ka.out.cell (i := 1) rfl
      have a2 := ka.out.cell (i := 2) rfl
      have a3 := ka.out.cell (i := 3) rfl
      have a4 := ka.out.cell (i := 4) rfl
      have a5 := ka.out.cell (i := 5) rfl
      have b0 := kb.out.cell (i := 0) rfl
      have b1 := kb.out.cell (i := 1) rfl
      have b2 := kb.out.cell (i := 2) rfl
      have b3 := kb.out.cell (i := 3) rfl
      have b4 := kb.out.cell (i := 4) rfl
      have b5 := kb.out.cell (i := 5) rfl
      go_wp2_with fail
      clear a0 a1 a2 a3 a4 a5 b0 b1 b2 b3 b4 b5
      (((with_reducible refine (S2.out _).mono ?_); rintro e w2 ⟨rfl, hb2⟩); replace HB := Lib.hid (HB.out.trans (hb2.mono HB.out.size)); replace ka := Lib.hid (ka.out.keep hb2); replace kb := Lib.hid (kb.out.keep hb2); replace ky := Lib.hid (ky.out.keep hb2); clear hb2)
      clear S1 S2 ka kb
      have y0 := ky.out.cell (i := 0) rfl
      have y1 := ky.out.cell (i := 1) rfl
      have y2 := ky.out.cell (i := 2) rfl
      have y3 := ky.out.cell (i := 3) rfl
      have y4 := ky.out.cell (i := 4) rfl
      have y5 := ky.out.cell (i := 5) rfl
      have fy0 := ky.out.frozen 0
      have fy1 := ky.out.frozen 1
      have fy2 := ky.out.frozen 2
      have fy3 := ky.out.frozen 3
      have fy4 := ky.out.frozen 4
      have fy5 := ky.out.frozen 5
      go_wp2_with fail
      exact bodyPost_ret (v := .tuple #[.agg #[.int .i64 0, .int .i64 0, .int .i64 0, .int .i64 0, .int .i64 0, .int .i64 0], .int .i64 1]) (by simp [results, Try.results11, go_sem, y0, y1, y2, y3, y4, y5]) rfl ⟨rfl, (((((HB.out.setCell (by simp <;> omega) _).setCell (by simp <;> omega) _).setCell (by simp <;> omega) _).setCell (by simp <;> omega) _).setCell (by simp <;> omega) _).setCell (by simp <;> omega) _⟩
    | true =>
      rw [Bool.true_and, show aE true = 0 from rfl]
      simp only [vF_yes]
      obtain ⟨⟨p1, p2⟩, q1, q2, q3⟩ := bxR_iff.1 h1'
      obtain ⟨⟨p3, p4⟩, q4, q5, q6⟩ := bxR_iff.1 h2'
      have O := Lib.hid (fun g T W h => rslof_4 l1 l2 l3 h1 h2 h3 m1 m2 m3 k1 k2 k3 true (by rw [p1, p2, p3, p4]; rfl) g T W h)
      simp only [vF_yes, show rE true = 0 from rfl] at O
      rw [show min (min (min l1 h1) m1) k1 = min l1 m1 from by omega, show max (max (max l1 h1) m1) k1 = max h1 k1 from by omega] at O
      rw [show min (min (min l2 h2) m2) k2 = min l2 m2 from by omega, show max (max (max l2 h2) m2) k2 = max h2 k2 from by omega] at O
      rw [show min (min (min l3 h3) m3) k3 = min l3 m3 from by omega, show max (max (max l3 h3) m3) k3 = max h3 k3 from by omega] at O
      generalize min l1 m1 = u0 at *
      generalize max h1 k1 = v0 at *
      generalize min l2 m2 = u1 at *
      generalize max h2 k2 = v1 at *
      generalize min l3 m3 = u2 at *
      generalize max h3 k3 = v2 at *
      rw [h1'] at S1
      rw [h2'] at S2
      clear h1' h2' p1 p2 p3 p4 q1 q2 q3 q4 q5 q6
      go_enter Try.func11, Try.ntmps11
      go_upto_region 1 with fail
      have hba := below_new1 w (.cells #[.int .i64 l1, .int .i64 l2, .int .i64 l3, .int .i64 h1, .int .i64 h2, .int .i64 h3] 25)
      have za : (w.alloc (.cells #[.int .i64 l1, .int .i64 l2, .int .i64 l3, .int .i64 h1, .int .i64 h2, .int .i64 h3] 25)).heap.size = w.heap.size + 1 := by simp
      have HB := Lib.hid hba
      have ka := Lib.hid (Lok.new w 25 #[.int .i64 l1, .int .i64 l2, .int .i64 l3, .int .i64 h1, .int .i64 h2, .int .i64 h3])
      clear hba
      generalize w.alloc (.cells #[.int .i64 l1, .int .i64 l2, .int .i64 l3, .int .i64 h1, .int .i64 h2, .int .i64 h3] 25) = Va at *
      have hbb := below_new1 Va (.cells #[.int .i64 m1, .int .i64 m2, .int .i64 m3, .int .i64 k1, .int .i64 k2, .int .i64 k3] 25)
      replace ka := Lib.hid (ka.out.keep hbb)
      have zb : (Va.alloc (.cells #[.int .i64 m1, .int .i64 m2, .int .i64 m3, .int .i64 k1, .int .i64 k2, .int .i64 k3] 25)).heap.size = Va.heap.size + 1 := by simp
      replace HB := Lib.hid (HB.out.trans (hbb.mono HB.out.size))
      have kb := Lib.hid (Lok.new Va 25 #[.int .i64 m1, .int .i64 m2, .int .i64 m3, .int .i64 k1, .int .i64 k2, .int .i64 k3])
      clear hbb
      generalize Va.alloc (.cells #[.int .i64 m1, .int .i64 m2, .int .i64 m3, .int .i64 k1, .int .i64 k2, .int .i64 k3] 25) = Vb at *
      rw [za] at kb zb
      have hby := below_new1 Vb (.cells #[.int .i64 0, .int .i64 0, .int .i64 0, .int .i64 0, .int .i64 0, .int .i64 0] 25)
      replace ka := Lib.hid (ka.out.keep hby)
      replace kb := Lib.hid (kb.out.keep hby)
      have zy : (Vb.alloc (.cells #[.int .i64 0, .int .i64 0, .int .i64 0, .int .i64 0, .int .i64 0, .int .i64 0] 25)).heap.size = Vb.heap.size + 1 := by simp
      replace HB := Lib.hid (HB.out.trans (hby.mono HB.out.size))
      have ky := Lib.hid (Lok.new Vb 25 #[.int .i64 0, .int .i64 0, .int .i64 0, .int .i64 0, .int .i64 0, .int .i64 0])
      clear hby
      generalize Vb.alloc (.cells #[.int .i64 0, .int .i64 0, .int .i64 0, .int .i64 0, .int .i64 0, .int .i64 0] 25) = Vy at *
      rw [zb] at ky
      clear za zb zy
      have a0 := ka.out.cell (i := 0) rfl
      have a1 := ka.out.cell (i := 1) rfl
      have a2 := ka.out.cell (i := 2) rfl
      have a3 := ka.out.cell (i := 3) rfl
      have a4 := ka.out.cell (i := 4) rfl
      have a5 := ka.out.cell (i := 5) rfl
      have b0 := kb.out.cell (i := 0) rfl
      have b1 := kb.out.cell (i := 1) rfl
      have b2 := kb.out.cell (i := 2) rfl
      have b3 := kb.out.cell (i := 3) rfl
      have b4 := kb.out.cell (i := 4) rfl
      have b5 := kb.out.cell (i := 5) rfl
      go_wp2_with fail
      clear a0 a1 a2 a3 a4 a5 b0 b1 b2 b3 b4 b5
      (((with_reducible refine (S1.out _).mono ?_); rintro e w1 ⟨rfl, hb1⟩); replace HB := Lib.hid (HB.out.trans (hb1.mono HB.out.size)); replace ka := Lib.hid (ka.out.keep hb1); replace kb := Lib.hid (kb.out.keep hb1); replace ky := Lib.hid (ky.out.keep hb1); clear hb1)
      have a0 := ka.out.cell (i := 0) rfl
      have a1 := ka.out.cell (i := 1) rfl
      have a2 := ka.out.cell (i := 2) rfl
      have a3 := ka.out.cell (i := 3) rfl
      have a4 := ka.out.cell (i := 4) rfl
      have a5 := ka.out.cell (i := 5) rfl
      have b0 := kb.out.cell (i := 0) rfl
      have b1 := kb.out.cell (i := 1) rfl
      have b2 := kb.out.cell (i := 2) rfl
      have b3 := kb.out.cell (i := 3) rfl
      have b4 := kb.out.cell (i := 4) rfl
      have b5 := kb.out.cell (i := 5) rfl
      go_wp2_with fail
      clear a0 a1 a2 a3 a4 a5 b0 b1 b2 b3 b4 b5
      (((with_reducible refine (S2.out _).mono ?_); rintro e w2 ⟨rfl, hb2⟩); replace HB := Lib.hid (HB.out.trans (hb2.mono HB.out.size)); replace ka := Lib.hid (ka.out.keep hb2); replace kb := Lib.hid (kb.out.keep hb2); replace ky := Lib.hid (ky.out.keep hb2); clear hb2)
      have a0 := ka.out.cell (i := 0) rfl
      have a1 := ka.out.cell (i := 1) rfl
      have a2 := ka.out.cell (i := 2) rfl
      have a3 := ka.out.cell (i := 3) rfl
      have a4 := ka.out.cell (i := 4) rfl
      have a5 := ka.out.cell (i := 5) rfl
      have b0 := kb.out.cell (i := 0) rfl
      have b1 := kb.out.cell (i := 1) rfl
      have b2 := kb.out.cell (i := 2) rfl
      have b3 := kb.out.cell (i := 3) rfl
      have b4 := kb.out.cell (i := 4) rfl
      have b5 := kb.out.cell (i := 5) rfl
      go_wp2_with fail
      clear a0 a1 a2 a3 a4 a5 b0 b1 b2 b3 b4 b5
      have hbr := below_new1 w2 (.cells #[.int .i64 l1, .int .i64 l2, .int .i64 l3, .int .i64 h1, .int .i64 h2, .int .i64 h3, .int .i64 m1, .int .i64 m2, .int .i64 m3, .int .i64 k1, .int .i64 k2, .int .i64 k3] 23)
      replace ka := Lib.hid (ka.out.keep hbr)
      replace kb := Lib.hid (kb.out.keep hbr)
      replace ky := Lib.hid (ky.out.keep hbr)
      have zr : (w2.alloc (.cells #[.int .i64 l1, .int .i64 l2, .int .i64 l3, .int .i64 h1, .int .i64 h2, .int .i64 h3, .int .i64 m1, .int .i64 m2, .int .i64 m3, .int .i64 k1, .int .i64 k2, .int .i64 k3] 23)).heap.size = w2.heap.size + 1 := by simp
      replace HB := Lib.hid (HB.out.trans (hbr.mono HB.out.size))
      have kr := Lib.hid (Lok.new w2 23 #[.int .i64 l1, .int .i64 l2, .int .i64 l3, .int .i64 h1, .int .i64 h2, .int .i64 h3, .int .i64 m1, .int .i64 m2, .int .i64 m3, .int .i64 k1, .int .i64 k2, .int .i64 k3])
      clear hbr
      generalize w2.alloc (.cells #[.int .i64 l1, .int .i64 l2, .int .i64 l3, .int .i64 h1, .int .i64 h2, .int .i64 h3, .int .i64 m1, .int .i64 m2, .int .i64 m3, .int .i64 k1, .int .i64 k2, .int .i64 k3] 23) = Vr at *
      clear zr
      generalize hgr : w2.heap.size = gr at *
      (((with_reducible refine (O.out _ _ _ kr.out).mono ?_); rintro e w3 ⟨rfl, hb3⟩); replace HB := Lib.hid (HB.out.trans (hb3.mono HB.out.size)); replace ky := Lib.hid (ky.out.keep hb3); clear hb3)
      clear kr S1 S2 O ka kb hgr
      have hy3 : w.heap.size + 2 < w3.heap.size := ky.out.lt
      go_upto_region 4 with fail
      have hbo := below_new1 w3 (.cells #[.int .i64 u0, .int .i64 u1, .int .i64 u2, .int .i64 v0, .int .i64 v1, .int .i64 v2] 25)
      replace ky := Lib.hid (ky.out.keep hbo)
      have zo : (w3.alloc (.cells #[.int .i64 u0, .int .i64 u1, .int .i64 u2, .int .i64 v0, .int .i64 v1, .int .i64 v2] 25)).heap.size = w3.heap.size + 1 := by simp
      replace HB := Lib.hid (HB.out.trans (hbo.mono HB.out.size))
      have ko := Lib.hid (Lok.new w3 25 #[.int .i64 u0, .int .i64 u1, .int .i64 u2, .int .i64 v0, .int .i64 v1, .int .i64 v2])
      clear hbo
      generalize w3.alloc (.cells #[.int .i64 u0, .int .i64 u1, .int .i64 u2, .int .i64 v0, .int .i64 v1, .int .i64 v2] 25) = Vo at *
      clear zo
      have o0 := ko.out.cell (i := 0) rfl
      have o1 := ko.out.cell (i := 1) rfl
      have o2 := ko.out.cell (i := 2) rfl
      have o3 := ko.out.cell (i := 3) rfl
      have o4 := ko.out.cell (i := 4) rfl
      have o5 := ko.out.cell (i := 5) rfl
      have y0 := ky.out.cell (i := 0) rfl
      have y1 := ky.out.cell (i := 1) rfl
      have y2 := ky.out.cell (i := 2) rfl
      have y3 := ky.out.cell (i := 3) rfl
      have y4 := ky.out.cell (i := 4) rfl
      have y5 := ky.out.cell (i := 5) rfl
      have fy0 := ky.out.frozen 0
      have fy1 := ky.out.frozen 1
      have fy2 := ky.out.frozen 2
      have fy3 := ky.out.frozen 3
      have fy4 := ky.out.frozen 4
      have fy5 := ky.out.frozen 5
      go_wp2_with fail
      exact bodyPost_ret (v := .tuple #[.agg #[.int .i64 u0, .int .i64 u1, .int .i64 u2, .int .i64 v0, .int .i64 v1, .int .i64 v2], .int .i64 0]) (by simp [results, Try.results11, go_sem, y0, y1, y2, y3, y4, y5]) rfl ⟨rfl, (((((HB.out.setCell (by simp <;> omega) _).setCell (by simp <;> omega) _).setCell (by simp <;> omega) _).setCell (by simp <;> omega) _).setCell (by simp <;> omega) _).setCell (by simp <;> omega) _⟩
end Go.Proofs.Ytfghjfgdjlkooaa
