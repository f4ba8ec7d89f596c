/-
  Contracts of package slab: Of, Join. (gen/SbC.py)
-/
import Derived.Test.YtfghjfgdjlkooaaSbB
import Derived.BigRegion
namespace Go.Proofs.Ytfghjfgdjlkooaa
open Go.RowKit

/-- The parts so far: those of the axes that have been gone through are the new ones. -/
def mnA (l1 l2 l3 x1 x2 x3 : Int) (m : Nat) : Array Value := #[.int .i64 (if 0 < m then min l1 x1 else l1), .int .i64 (if 1 < m then min l2 x2 else l2), .int .i64 (if 2 < m then min l3 x3 else l3)]
def mxA (l1 l2 l3 x1 x2 x3 : Int) (m : Nat) : Array Value := #[.int .i64 (if 0 < m then max l1 x1 else l1), .int .i64 (if 1 < m then max l2 x2 else l2), .int .i64 (if 2 < m then max l3 x3 else l3)]
theorem mnA_at (l1 l2 l3 x1 x2 x3 : Int) {m : Nat} (h : m < 3) : (mnA l1 l2 l3 x1 x2 x3 m)[m]? = some (.int .i64 (pt l1 l2 l3 m)) := by
  rcases show m = 0 ∨ m = 1 ∨ m = 2 by omega with rfl | rfl | rfl <;> rfl
theorem mxA_at (l1 l2 l3 x1 x2 x3 : Int) {m : Nat} (h : m < 3) : (mxA l1 l2 l3 x1 x2 x3 m)[m]? = some (.int .i64 (pt l1 l2 l3 m)) := by
  rcases show m = 0 ∨ m = 1 ∨ m = 2 by omega with rfl | rfl | rfl <;> rfl
theorem mnA_set (l1 l2 l3 x1 x2 x3 : Int) {m : Nat} (h : m < 3) : (mnA l1 l2 l3 x1 x2 x3 m).setIfInBounds m (.int .i64 (min (pt l1 l2 l3 m) (pt x1 x2 x3 m))) = mnA l1 l2 l3 x1 x2 x3 (m + 1) := by
  rcases show m = 0 ∨ m = 1 ∨ m = 2 by omega with rfl | rfl | rfl <;> rfl
theorem mxA_set (l1 l2 l3 x1 x2 x3 : Int) {m : Nat} (h : m < 3) : (mxA l1 l2 l3 x1 x2 x3 m).setIfInBounds m (.int .i64 (max (pt l1 l2 l3 m) (pt x1 x2 x3 m))) = mxA l1 l2 l3 x1 x2 x3 (m + 1) := by
  rcases show m = 0 ∨ m = 1 ∨ m = 2 by omega with rfl | rfl | rfl <;> rfl
set_option maxRecDepth 100000 in
set_option maxHeartbeats 8000000 in
theorem slof_any (A : Option Addr) (n c : Nat) (F : Nat → Nat → Int) (w : World) (hr : RowK w A n 3 F) (hn : n ≤ 9223372036854775806) :
    Calls Try.prog 8 #[.slice A n c] w fun e' w' => e' = .returned (.tuple #[.agg #[.int .i64 (vF (bxY n (aS3 F n)) (lwF F 0 n)), .int .i64 (vF (bxY n (aS3 F n)) (lwF F 1 n)), .int .i64 (vF (bxY n (aS3 F n)) (lwF F 2 n)), .int .i64 (vF (bxY n (aS3 F n)) (hiF F 0 n)), .int .i64 (vF (bxY n (aS3 F n)) (hiF F 1 n)), .int .i64 (vF (bxY n (aS3 F n)) (hiF F 2 n))], .int .i64 (bxE n (aS3 F n))]) ∧ Below w.heap.size w w' := by
  have HB := Lib.hid (Below.refl w.heap.size w)
  have R := Lib.hid hr
  clear hr
  by_cases hn0 : n = 0
  · subst hn0
    rw [show bxE 0 (aS3 F 0) = 1 from rfl, show bxY 0 (aS3 F 0) = false from rfl]
    simp only [vF_no]
    clear R
    go_enter Try.func8, Try.ntmps8
    go_upto_region 1 with fail
    have hby := below_new1 w (.cells #[.int .i64 0, .int .i64 0, .int .i64 0, .int .i64 0, .int .i64 0, .int .i64 0] 25)
    have zy : (w.alloc (.cells #[.int .i64 0, .int .i64 0, .int .i64 0, .int .i64 0, .int .i64 0, .int .i64 0] 25)).heap.size = w.heap.size + 1 := by simp
    have HB := Lib.hid hby
    have ky := Lib.hid (Lok.new w 25 #[.int .i64 0, .int .i64 0, .int .i64 0, .int .i64 0, .int .i64 0, .int .i64 0])
    clear hby
    generalize w.alloc (.cells #[.int .i64 0, .int .i64 0, .int .i64 0, .int .i64 0, .int .i64 0, .int .i64 0] 25) = Vy at *
    clear zy
    have y0 := ky.out.cell (i := 0) rfl
    have y1 := ky.out.cell (i := 1) rfl
    have y2 := ky.out.cell (i := 2) rfl
    have y3 := ky.out.cell (i := 3) rfl
    have y4 := ky.out.cell (i := 4) rfl
    have y5 := ky.out.cell (i := 5) rfl
    have fy0 := ky.out.frozen 0
    have fy1 := ky.out.frozen 1
    have fy2 := ky.out.frozen 2
    have fy3 := ky.out.frozen 3
    have fy4 := ky.out.frozen 4
    have fy5 := ky.out.frozen 5
    go_wp2_with fail
    exact bodyPost_ret (v := .tuple #[.agg #[.int .i64 0, .int .i64 0, .int .i64 0, .int .i64 0, .int .i64 0, .int .i64 0], .int .i64 1]) (by simp [results, Try.results8, go_sem, y0, y1, y2, y3, y4, y5]) rfl ⟨rfl, (((((HB.out.setCell (by simp <;> omega) _).setCell (by simp <;> omega) _).setCell (by simp <;> omega) _).setCell (by simp <;> omega) _).setCell (by simp <;> omega) _).setCell (by simp <;> omega) _⟩
  · have SC := Lib.hid (fun W (h : Below w.heap.size w W) => small3_any A n c F W (R.out.keep h) (by omega))
    cases ht : aS3 F n with
    | false =>
      rw [show bxE n false = 5 from if_neg hn0, show bxY n false = false from Bool.and_false _]
      rw [ht] at SC
      simp only [vF_no]
      clear ht R
      have hn1 : ¬ ((n : Int) = 0) := by omega
      go_enter Try.func8, Try.ntmps8
      go_upto_region 1 with fail
      have hby := below_new1 w (.cells #[.int .i64 0, .int .i64 0, .int .i64 0, .int .i64 0, .int .i64 0, .int .i64 0] 25)
      have zy : (w.alloc (.cells #[.int .i64 0, .int .i64 0, .int .i64 0, .int .i64 0, .int .i64 0, .int .i64 0] 25)).heap.size = w.heap.size + 1 := by simp
      have HB := Lib.hid hby
      have ky := Lib.hid (Lok.new w 25 #[.int .i64 0, .int .i64 0, .int .i64 0, .int .i64 0, .int .i64 0, .int .i64 0])
      clear hby
      generalize w.alloc (.cells #[.int .i64 0, .int .i64 0, .int .i64 0, .int .i64 0, .int .i64 0, .int .i64 0] 25) = Vy at *
      clear zy
      go_wp2_with fail
      (((with_reducible refine (SC.out _ HB.out).mono ?_); rintro e w1 ⟨rfl, hb1⟩); replace HB := Lib.hid (HB.out.trans (hb1.mono HB.out.size)); replace ky := Lib.hid (ky.out.keep hb1); clear hb1)
      have y0 := ky.out.cell (i := 0) rfl
      have y1 := ky.out.cell (i := 1) rfl
      have y2 := ky.out.cell (i := 2) rfl
      have y3 := ky.out.cell (i := 3) rfl
      have y4 := ky.out.cell (i := 4) rfl
      have y5 := ky.out.cell (i := 5) rfl
      have fy0 := ky.out.frozen 0
      have fy1 := ky.out.frozen 1
      have fy2 := ky.out.frozen 2
      have fy3 := ky.out.frozen 3
      have fy4 := ky.out.frozen 4
      have fy5 := ky.out.frozen 5
      clear SC
      go_wp2_with fail
      exact bodyPost_ret (v := .tuple #[.agg #[.int .i64 0, .int .i64 0, .int .i64 0, .int .i64 0, .int .i64 0, .int .i64 0], .int .i64 5]) (by simp [results, Try.results8, go_sem, y0, y1, y2, y3, y4, y5]) rfl ⟨rfl, (((((HB.out.setCell (by simp <;> omega) _).setCell (by simp <;> omega) _).setCell (by simp <;> omega) _).setCell (by simp <;> omega) _).setCell (by simp <;> omega) _).setCell (by simp <;> omega) _⟩
    | true =>
      rw [show bxE n true = 0 from if_neg hn0, show bxY n true = true from by unfold bxY; rw [decide_eq_false hn0]; rfl]
      rw [ht] at SC
      simp only [vF_yes]
      clear ht
      have PC := Lib.hid (fun x y z W => slparts_any x y z W)
      have QC := Lib.hid (fun x y z W => slpoint_any x y z W)
      have hn1 : ¬ ((n : Int) = 0) := by omega
      go_enter Try.func8, Try.ntmps8
      go_upto_region 1 with fail
      have hby := below_new1 w (.cells #[.int .i64 0, .int .i64 0, .int .i64 0, .int .i64 0, .int .i64 0, .int .i64 0] 25)
      have zy : (w.alloc (.cells #[.int .i64 0, .int .i64 0, .int .i64 0, .int .i64 0, .int .i64 0, .int .i64 0] 25)).heap.size = w.heap.size + 1 := by simp
      have HB := Lib.hid hby
      have ky := Lib.hid (Lok.new w 25 #[.int .i64 0, .int .i64 0, .int .i64 0, .int .i64 0, .int .i64 0, .int .i64 0])
      clear hby
      generalize w.alloc (.cells #[.int .i64 0, .int .i64 0, .int .i64 0, .int .i64 0, .int .i64 0, .int .i64 0] 25) = Vy at *
      clear zy
      go_wp2_with fail
      (((with_reducible refine (SC.out _ HB.out).mono ?_); rintro e w1 ⟨rfl, hb1⟩); replace HB := Lib.hid (HB.out.trans (hb1.mono HB.out.size)); replace ky := Lib.hid (ky.out.keep hb1); clear hb1)
      clear SC
      obtain ⟨b, o, rfl, hb, hc⟩ := (R.out.keep HB.out).at (show 0 < n by omega)
      have a0 := hc 0 (by omega) 0 (by omega)
      have a1 := hc 0 (by omega) 1 (by omega)
      have a2 := hc 0 (by omega) 2 (by omega)
      simp only [Nat.zero_mul, Nat.add_zero, Nat.zero_add] at a0 a1 a2
      have hg : w.heap.size < w1.heap.size := ky.out.lt
      clear hc
      have m1 : (0 : Int) < (n : Int) := by omega
      have m0 : 0 < n := by omega
      go_upto_region 5 with fail
      refine wp_region_rel (by kernel_rfl) [18, 19, 20, 21, 22, 23, 24, 25, 4, 5] ?Fr2 ?hFr2
        (fun L u W => Below w1.heap.size w1 W ∧ (L 0 = true → u 18 = .slice (some ⟨b, o, none⟩) n c) ∧ (L 1 = true → u 19 = .pointer (some ⟨b, o, none⟩)) ∧ (L 2 = true → u 20 = .agg #[.int .i64 (F 0 0), .int .i64 (F 0 1), .int .i64 (F 0 2)]) ∧ (L 3 = true → u 21 = .agg #[.int .i64 (F 0 0), .int .i64 (F 0 1), .int .i64 (F 0 2)]) ∧ (L 4 = true → u 22 = .slice (some ⟨b, o, none⟩) n c) ∧ (L 5 = true → u 23 = .pointer (some ⟨b, o, none⟩)) ∧ (L 6 = true → u 24 = .agg #[.int .i64 (F 0 0), .int .i64 (F 0 1), .int .i64 (F 0 2)]) ∧ (L 7 = true → u 25 = .agg #[.int .i64 (F 0 0), .int .i64 (F 0 1), .int .i64 (F 0 2)]) ∧ (L 8 = true → ∃ (g : Nat) (x8_0 x8_1 x8_2 : Value), u 4 = .pointer (some ⟨g, 0, none⟩) ∧ w1.heap.size ≤ g ∧ Lok W g 47 #[x8_0, x8_1, x8_2] ∧ (L 10 = true → x8_0 = .int .i64 (F 0 0) ∧ x8_1 = .int .i64 (F 0 1) ∧ x8_2 = .int .i64 (F 0 2))) ∧ (L 10 = true → L 8 = true) ∧ (L 9 = true → ∃ (g : Nat) (x9_0 x9_1 x9_2 : Value), u 5 = .pointer (some ⟨g, 0, none⟩) ∧ w1.heap.size ≤ g ∧ Lok W g 47 #[x9_0, x9_1, x9_2] ∧ (L 11 = true → x9_0 = .int .i64 (F 0 0) ∧ x9_1 = .int .i64 (F 0 1) ∧ x9_2 = .int .i64 (F 0 2))) ∧ (L 11 = true → L 9 = true) ∧ (L 8 = true → L 9 = true → u 4 ≠ u 5)) (by kernel_rfl) (by kernel_rfl) 12 rfl ?h0r2 ?stepr2 ?finr2
      case hFr2 => intro u; simp only [putAll, Act.put, List.setIfInBounds_toArray, List.set]; exact rfl
      case h0r2 => intro L u hL; exact ⟨(Below.refl _ _).drew, (fun h => by simp [hL] at h), (fun h => by simp [hL] at h), (fun h => by simp [hL] at h), (fun h => by simp [hL] at h), (fun h => by simp [hL] at h), (fun h => by simp [hL] at h), (fun h => by simp [hL] at h), (fun h => by simp [hL] at h), (fun h => by simp [hL] at h), (fun h => by simp [hL] at h), (fun h => by simp [hL] at h), (fun h => by simp [hL] at h), (fun h => by simp [hL] at h)⟩
      case stepr2 =>
        refine ops_all (ops_cons ?s0r2 (ops_cons ?s1r2 (ops_cons ?s2r2 (ops_cons ?s3r2 (ops_cons ?s4r2 (ops_cons ?s5r2 (ops_cons ?s6r2 (ops_cons ?s7r2 (ops_cons ?s8r2 (ops_cons ?s9r2 (ops_cons ?s10r2 (ops_cons ?s11r2 (ops_nil)))))))))))))
        case s0r2 =>
          rintro L u W ⟨hB, c0, c1, c2, c3, c4, c5, c6, c7, c8, d10, c9, d11, y8_9⟩ hf hd K hK
          dsimp only at hK
          clear hd
          go_simp
          refine hK _ _ ?_ (fun h => by cases h)
          intro s hs
          cases hs
          exact ⟨hB, (fun _ => rfl), c1, c2, c3, c4, c5, c6, c7, c8, d10, c9, d11, y8_9⟩
        case s1r2 =>
          rintro L u W ⟨hB, c0, c1, c2, c3, c4, c5, c6, c7, c8, d10, c9, d11, y8_9⟩ hf hd K hK
          dsimp only at hK
          have hd0 : L 0 = true := (by first | (refine hd ⟨0, .data⟩ ?_ rfl; simp; done) | (refine hd ⟨0, .guard⟩ ?_ rfl; simp; done) | (refine hd ⟨0, .phase⟩ ?_ rfl; simp; done) | (refine hd ⟨0, .chain⟩ ?_ rfl; simp; done))
          have e0 := c0 hd0
          rw [e0] at hK
          clear hd0
          clear hd
          go_simp
          refine hK _ _ ?_ (fun h => by cases h)
          intro s hs
          cases hs
          exact ⟨hB, c0, (fun _ => rfl), c2, c3, c4, c5, c6, c7, c8, d10, c9, d11, y8_9⟩
        case s2r2 =>
          rintro L u W ⟨hB, c0, c1, c2, c3, c4, c5, c6, c7, c8, d10, c9, d11, y8_9⟩ hf hd K hK
          dsimp only at hK
          have hd1 : L 1 = true := (by first | (refine hd ⟨1, .data⟩ ?_ rfl; simp; done) | (refine hd ⟨1, .guard⟩ ?_ rfl; simp; done) | (refine hd ⟨1, .phase⟩ ?_ rfl; simp; done) | (refine hd ⟨1, .chain⟩ ?_ rfl; simp; done))
          have e1 := c1 hd1
          rw [e1] at hK
          have t0 := keepc hB a0
          have t1 := keepc hB a1
          have t2 := keepc hB a2
          clear hd1
          clear hd
          go_simp
          refine hK _ _ ?_ (fun h => by cases h)
          intro s hs
          cases hs
          exact ⟨hB, c0, c1, (fun _ => rfl), c3, c4, c5, c6, c7, c8, d10, c9, d11, y8_9⟩
        case s3r2 =>
          rintro L u W ⟨hB, c0, c1, c2, c3, c4, c5, c6, c7, c8, d10, c9, d11, y8_9⟩ hf hd K hK
          dsimp only at hK
          have hd2 : L 2 = true := (by first | (refine hd ⟨2, .data⟩ ?_ rfl; simp; done) | (refine hd ⟨2, .guard⟩ ?_ rfl; simp; done) | (refine hd ⟨2, .phase⟩ ?_ rfl; simp; done) | (refine hd ⟨2, .chain⟩ ?_ rfl; simp; done))
          have e2 := c2 hd2
          rw [e2] at hK
          clear hd2
          clear hd
          go_simp
          go_wp2_with (go_at_call 23; ((with_reducible refine (PC.out _ _ _ _).mono ?_); rintro e w5 ⟨rfl, hb⟩))
          refine hK _ _ ?_ (fun h => by cases h)
          intro s hs
          cases hs
          exact ⟨hB.trans (hb.mono hB.size), c0, c1, c2, (fun _ => rfl), c4, c5, c6, c7, (fun h => by obtain ⟨g, x8_0, x8_1, x8_2, k1, k2, k3, k4⟩ := c8 h; exact ⟨g, x8_0, x8_1, x8_2, k1, k2, k3.keep hb, k4⟩), d10, (fun h => by obtain ⟨g, x9_0, x9_1, x9_2, k1, k2, k3, k4⟩ := c9 h; exact ⟨g, x9_0, x9_1, x9_2, k1, k2, k3.keep hb, k4⟩), d11, y8_9⟩
        case s4r2 =>
          rintro L u W ⟨hB, c0, c1, c2, c3, c4, c5, c6, c7, c8, d10, c9, d11, y8_9⟩ hf hd K hK
          dsimp only at hK
          clear hd
          go_simp
          refine hK _ _ ?_ (fun h => by cases h)
          intro s hs
          cases hs
          exact ⟨hB, c0, c1, c2, c3, (fun _ => rfl), c5, c6, c7, c8, d10, c9, d11, y8_9⟩
        case s5r2 =>
          rintro L u W ⟨hB, c0, c1, c2, c3, c4, c5, c6, c7, c8, d10, c9, d11, y8_9⟩ hf hd K hK
          dsimp only at hK
          have hd4 : L 4 = true := (by first | (refine hd ⟨4, .data⟩ ?_ rfl; simp; done) | (refine hd ⟨4, .guard⟩ ?_ rfl; simp; done) | (refine hd ⟨4, .phase⟩ ?_ rfl; simp; done) | (refine hd ⟨4, .chain⟩ ?_ rfl; simp; done))
          have e4 := c4 hd4
          rw [e4] at hK
          clear hd4
          clear hd
          go_simp
          refine hK _ _ ?_ (fun h => by cases h)
          intro s hs
          cases hs
          exact ⟨hB, c0, c1, c2, c3, c4, (fun _ => rfl), c6, c7, c8, d10, c9, d11, y8_9⟩
        case s6r2 =>
          rintro L u W ⟨hB, c0, c1, c2, c3, c4, c5, c6, c7, c8, d10, c9, d11, y8_9⟩ hf hd K hK
          dsimp only at hK
          have hd5 : L 5 = true := (by first | (refine hd ⟨5, .data⟩ ?_ rfl; simp; done) | (refine hd ⟨5, .guard⟩ ?_ rfl; simp; done) | (refine hd ⟨5, .phase⟩ ?_ rfl; simp; done) | (refine hd ⟨5, .chain⟩ ?_ rfl; simp; done))
          have e5 := c5 hd5
          rw [e5] at hK
          have t0 := keepc hB a0
          have t1 := keepc hB a1
          have t2 := keepc hB a2
          clear hd5
          clear hd
          go_simp
          refine hK _ _ ?_ (fun h => by cases h)
          intro s hs
          cases hs
          exact ⟨hB, c0, c1, c2, c3, c4, c5, (fun _ => rfl), c7, c8, d10, c9, d11, y8_9⟩
        case s7r2 =>
          rintro L u W ⟨hB, c0, c1, c2, c3, c4, c5, c6, c7, c8, d10, c9, d11, y8_9⟩ hf hd K hK
          dsimp only at hK
          have hd6 : L 6 = true := (by first | (refine hd ⟨6, .data⟩ ?_ rfl; simp; done) | (refine hd ⟨6, .guard⟩ ?_ rfl; simp; done) | (refine hd ⟨6, .phase⟩ ?_ rfl; simp; done) | (refine hd ⟨6, .chain⟩ ?_ rfl; simp; done))
          have e6 := c6 hd6
          rw [e6] at hK
          clear hd6
          clear hd
          go_simp
          go_wp2_with (go_at_call 23; ((with_reducible refine (PC.out _ _ _ _).mono ?_); rintro e w5 ⟨rfl, hb⟩))
          refine hK _ _ ?_ (fun h => by cases h)
          intro s hs
          cases hs
          exact ⟨hB.trans (hb.mono hB.size), c0, c1, c2, c3, c4, c5, c6, (fun _ => rfl), (fun h => by obtain ⟨g, x8_0, x8_1, x8_2, k1, k2, k3, k4⟩ := c8 h; exact ⟨g, x8_0, x8_1, x8_2, k1, k2, k3.keep hb, k4⟩), d10, (fun h => by obtain ⟨g, x9_0, x9_1, x9_2, k1, k2, k3, k4⟩ := c9 h; exact ⟨g, x9_0, x9_1, x9_2, k1, k2, k3.keep hb, k4⟩), d11, y8_9⟩
        case s8r2 =>
          rintro L u W ⟨hB, c0, c1, c2, c3, c4, c5, c6, c7, c8, d10, c9, d11, y8_9⟩ hf hd K hK
          dsimp only at hK
          go_simp
          have hb : Below W.heap.size W (W.alloc (.cells #[.int .i64 0, .int .i64 0, .int .i64 0] 47)) := (Below.refl _ W).alloc (Nat.le_refl _) _
          refine hK _ _ ?_ (fun h => by cases h)
          intro s hs
          cases hs
          exact ⟨hB.trans (hb.mono hB.size), c0, c1, c2, c3, c4, c5, c6, c7, (fun _ => ⟨_, _, _, _, rfl, hB.size, Lok.new _ _ _, fun h => absurd (d10 h) (by rw [hf]; decide)⟩), (fun _ => rfl), (fun h => by obtain ⟨g, x9_0, x9_1, x9_2, k1, k2, k3, k4⟩ := c9 h; exact ⟨g, x9_0, x9_1, x9_2, k1, k2, k3.keep hb, k4⟩), d11, (fun _ h => by obtain ⟨g, x9_0, x9_1, x9_2, k1, k2, k3, k4⟩ := c9 h; exact ptr_new k1 k3)⟩
        case s9r2 =>
          rintro L u W ⟨hB, c0, c1, c2, c3, c4, c5, c6, c7, c8, d10, c9, d11, y8_9⟩ hf hd K hK
          dsimp only at hK
          go_simp
          have hb : Below W.heap.size W (W.alloc (.cells #[.int .i64 0, .int .i64 0, .int .i64 0] 47)) := (Below.refl _ W).alloc (Nat.le_refl _) _
          refine hK _ _ ?_ (fun h => by cases h)
          intro s hs
          cases hs
          exact ⟨hB.trans (hb.mono hB.size), c0, c1, c2, c3, c4, c5, c6, c7, (fun h => by obtain ⟨g, x8_0, x8_1, x8_2, k1, k2, k3, k4⟩ := c8 h; exact ⟨g, x8_0, x8_1, x8_2, k1, k2, k3.keep hb, k4⟩), d10, (fun _ => ⟨_, _, _, _, rfl, hB.size, Lok.new _ _ _, fun h => absurd (d11 h) (by rw [hf]; decide)⟩), (fun _ => rfl), (fun h _ => by obtain ⟨g, x8_0, x8_1, x8_2, k1, k2, k3, k4⟩ := c8 h; exact ptr_new2 k1 k3)⟩
        case s10r2 =>
          rintro L u W ⟨hB, c0, c1, c2, c3, c4, c5, c6, c7, c8, d10, c9, d11, y8_9⟩ hf hd K hK
          dsimp only at hK
          have hd8 : L 8 = true := hd ⟨8, .data⟩ (by simp) rfl
          have hd3 : L 3 = true := (by first | (refine hd ⟨3, .data⟩ ?_ rfl; simp; done) | (refine hd ⟨3, .guard⟩ ?_ rfl; simp; done) | (refine hd ⟨3, .phase⟩ ?_ rfl; simp; done) | (refine hd ⟨3, .chain⟩ ?_ rfl; simp; done))
          obtain ⟨g, x8_0, x8_1, x8_2, e8, k2, k3, k4⟩ := c8 hd8
          rw [e8] at hK
          have e3 := c3 hd3
          rw [e3] at hK
          have t0 := k3.cell (i := 0) rfl
          have f0 := k3.frozen 0
          have t1 := k3.cell (i := 1) rfl
          have f1 := k3.frozen 1
          have t2 := k3.cell (i := 2) rfl
          have f2 := k3.frozen 2
          have HH := Lib.hid (And.intro trivial trivial)
          clear hd
          have hd8' := Lib.hid hd8
          clear hd8
          have hd3' := Lib.hid hd3
          clear hd3
          go_simp
          have hd8 := hd8'.out
          have hd3 := hd3'.out
          have hlok := ((k3.set (i := 0) (v := .int .i64 (F 0 0))).set (i := 1) (v := .int .i64 (F 0 1))).set (i := 2) (v := .int .i64 (F 0 2))
          refine hK undef _ (fun s h => by cases h) (fun _ => ?_)
          exact ⟨((hB.setCell k2 _).setCell k2 _).setCell k2 _, c0, c1, c2, (fun _ => rfl), c4, c5, c6, c7, (fun _ => ⟨g, _, _, _, rfl, k2, hlok, fun _ => ⟨rfl, rfl, rfl⟩⟩), (fun _ => hd8), (fun h => by obtain ⟨g2, x9_0, x9_1, x9_2, m1, m2, m3, m4⟩ := c9 h; have hne := ptr_apart (y8_9 hd8 h) e8 m1; exact ⟨g2, x9_0, x9_1, x9_2, m1, m2, ((m3.far hne).far hne).far hne, m4⟩), d11, (fun h1 h2 => by first | exact y8_9 h1 h2 | (rw [← e8]; exact y8_9 h1 h2))⟩
        case s11r2 =>
          rintro L u W ⟨hB, c0, c1, c2, c3, c4, c5, c6, c7, c8, d10, c9, d11, y8_9⟩ hf hd K hK
          dsimp only at hK
          have hd9 : L 9 = true := hd ⟨9, .data⟩ (by simp) rfl
          have hd7 : L 7 = true := (by first | (refine hd ⟨7, .data⟩ ?_ rfl; simp; done) | (refine hd ⟨7, .guard⟩ ?_ rfl; simp; done) | (refine hd ⟨7, .phase⟩ ?_ rfl; simp; done) | (refine hd ⟨7, .chain⟩ ?_ rfl; simp; done))
          obtain ⟨g, x9_0, x9_1, x9_2, e9, k2, k3, k4⟩ := c9 hd9
          rw [e9] at hK
          have e7 := c7 hd7
          rw [e7] at hK
          have t0 := k3.cell (i := 0) rfl
          have f0 := k3.frozen 0
          have t1 := k3.cell (i := 1) rfl
          have f1 := k3.frozen 1
          have t2 := k3.cell (i := 2) rfl
          have f2 := k3.frozen 2
          have HH := Lib.hid (And.intro trivial trivial)
          clear hd
          have hd9' := Lib.hid hd9
          clear hd9
          have hd7' := Lib.hid hd7
          clear hd7
          go_simp
          have hd9 := hd9'.out
          have hd7 := hd7'.out
          have hlok := ((k3.set (i := 0) (v := .int .i64 (F 0 0))).set (i := 1) (v := .int .i64 (F 0 1))).set (i := 2) (v := .int .i64 (F 0 2))
          refine hK undef _ (fun s h => by cases h) (fun _ => ?_)
          exact ⟨((hB.setCell k2 _).setCell k2 _).setCell k2 _, c0, c1, c2, c3, c4, c5, c6, (fun _ => rfl), (fun h => by obtain ⟨g2, x8_0, x8_1, x8_2, m1, m2, m3, m4⟩ := c8 h; have hne := ptr_apart2 (y8_9 h hd9) m1 e9; exact ⟨g2, x8_0, x8_1, x8_2, m1, m2, ((m3.far hne).far hne).far hne, m4⟩), d10, (fun _ => ⟨g, _, _, _, rfl, k2, hlok, fun _ => ⟨rfl, rfl, rfl⟩⟩), (fun _ => hd9), (fun h1 h2 => by first | exact y8_9 h1 h2 | (rw [← e9]; exact y8_9 h1 h2))⟩
      case finr2 =>
        rintro L u W hL ⟨hB, c0, c1, c2, c3, c4, c5, c6, c7, c8, d10, c9, d11, y8_9⟩
        have e0 := c0 (hL 0 (by decide))
        have e1 := c1 (hL 1 (by decide))
        have e2 := c2 (hL 2 (by decide))
        have e3 := c3 (hL 3 (by decide))
        have e4 := c4 (hL 4 (by decide))
        have e5 := c5 (hL 5 (by decide))
        have e6 := c6 (hL 6 (by decide))
        have e7 := c7 (hL 7 (by decide))
        obtain ⟨g8, x8_0, x8_1, x8_2, e8, hg8, hlok8, hst8⟩ := c8 (hL 8 (by decide))
        obtain ⟨rfl, rfl, rfl⟩ := hst8 (hL 10 (by decide))
        clear hst8
        obtain ⟨g9, x9_0, x9_1, x9_2, e9, hg9, hlok9, hst9⟩ := c9 (hL 9 (by decide))
        obtain ⟨rfl, rfl, rfl⟩ := hst9 (hL 11 (by decide))
        clear hst9
        have ng8_9 : g8 ≠ g9 := fun h => y8_9 (hL 8 (by decide)) (hL 9 (by decide)) (by rw [e8, e9, h])
        clear hL c0 c1 c2 c3 c4 c5 c6 c7 c8 d10 c9 d11 y8_9
        try simp only [e0, e1, e2, e3, e4, e5, e6, e7, e8, e9]
        clear e0 e1 e2 e3 e4 e5 e6 e7 e8 e9
        replace HB := Lib.hid (HB.out.trans (hB.mono HB.out.size))
        have K4 := Lib.hid hlok8
        have K5 := Lib.hid hlok9
        have KY := Lib.hid (ky.out.keep hB)
        have n4 : w.heap.size < g8 := by omega
        have n5 : w.heap.size < g9 := by omega
        have n45 : g8 ≠ g9 := ng8_9
        clear hB hlok8 hlok9 a0 a1 a2 ky hg hg8 hg9
        go_wp2_with fail
        go_loopw [28] (fun y wr => ∃ k : Nat, y = .int .i64 k ∧ k ≤ n ∧ Below w.heap.size w wr ∧ Lok wr w.heap.size 25 #[.int .i64 0, .int .i64 0, .int .i64 0, .int .i64 0, .int .i64 0, .int .i64 0] ∧ Lok wr g8 47 #[.int .i64 (lwF F 0 k), .int .i64 (lwF F 1 k), .int .i64 (lwF F 2 k)] ∧ Lok wr g9 47 #[.int .i64 (hiF F 0 k), .int .i64 (hiF F 1 k), .int .i64 (hiF F 2 k)]) (fun y _ => n - (intOf y).toNat)
        case atStart => exact ⟨0, rfl, Nat.zero_le _, HB.out, KY.out, K4.out, K5.out⟩
        case round =>
          clear HB K4 K5 KY
          obtain ⟨k, rfl, hk, hB, hY, h4, h5⟩ := hrel
          have HB := Lib.hid hB
          have KY := Lib.hid hY
          have K4 := Lib.hid h4
          have K5 := Lib.hid h5
          clear hB hY h4 h5
          by_cases hlt : k < n
          · obtain ⟨b, o, hbo, hb, hc⟩ := (R.out.keep HB.out).at hlt
            cases hbo
            have c0 := hc k hlt 0 (by omega)
            have c1 := hc k hlt 1 (by omega)
            have c2 := hc k hlt 2 (by omega)
            rw [Nat.add_zero] at c0
            rw [← Nat.add_assoc] at c1 c2
            clear hc
            have E : Hid ((lwF F 0 (k + 1) = min (lwF F 0 k) (F k 0) ∧ lwF F 1 (k + 1) = min (lwF F 1 k) (F k 1) ∧ lwF F 2 (k + 1) = min (lwF F 2 k) (F k 2)) ∧ hiF F 0 (k + 1) = max (hiF F 0 k) (F k 0) ∧ hiF F 1 (k + 1) = max (hiF F 1 k) (F k 1) ∧ hiF F 2 (k + 1) = max (hiF F 2 k) (F k 2)) := Lib.hid ⟨⟨rfl, rfl, rfl⟩, rfl, rfl, rfl⟩
            generalize F k 0 = x1 at *
            generalize F k 1 = x2 at *
            generalize F k 2 = x3 at *
            generalize lwF F 0 k = l1 at *
            generalize lwF F 1 k = l2 at *
            generalize lwF F 2 k = l3 at *
            generalize hiF F 0 k = h1 at *
            generalize hiF F 1 k = h2 at *
            generalize hiF F 2 k = h3 at *
            have i0 : (0 : Int) ≤ (k : Int) := by omega
            have i1 : (k : Int) < (n : Int) := by omega
            have i2 : ((k : Int)).toNat = k := by omega
            go_wp2_with fail
            have hbp := below_new1 wr (.cells #[.int .i64 x1, .int .i64 x2, .int .i64 x3] 23)
            replace KY := Lib.hid (KY.out.keep hbp)
            replace K4 := Lib.hid (K4.out.keep hbp)
            replace K5 := Lib.hid (K5.out.keep hbp)
            have zp : (wr.alloc (.cells #[.int .i64 x1, .int .i64 x2, .int .i64 x3] 23)).heap.size = wr.heap.size + 1 := by simp
            replace HB := Lib.hid (HB.out.trans (hbp.mono HB.out.size))
            have kp := Lib.hid (Lok.new wr 23 #[.int .i64 x1, .int .i64 x2, .int .i64 x3])
            clear hbp
            generalize wr.alloc (.cells #[.int .i64 x1, .int .i64 x2, .int .i64 x3] 23) = Vp at *
            clear zp c0 c1 c2
            (((with_reducible refine (PC.out _ _ _ _).mono ?_); rintro e w1 ⟨rfl, hb1⟩); replace HB := Lib.hid (HB.out.trans (hb1.mono HB.out.size)); replace KY := Lib.hid (KY.out.keep hb1); replace K4 := Lib.hid (K4.out.keep hb1); replace K5 := Lib.hid (K5.out.keep hb1); clear hb1)
            clear kp
            have n14 : g8 < w1.heap.size := K4.out.lt
            have n15 : g9 < w1.heap.size := K5.out.lt
            go_wp2_with fail
            have hbq := below_new1 w1 (.cells #[.int .i64 x1, .int .i64 x2, .int .i64 x3] 47)
            replace KY := Lib.hid (KY.out.keep hbq)
            replace K4 := Lib.hid (K4.out.keep hbq)
            replace K5 := Lib.hid (K5.out.keep hbq)
            have zq : (w1.alloc (.cells #[.int .i64 x1, .int .i64 x2, .int .i64 x3] 47)).heap.size = w1.heap.size + 1 := by simp
            replace HB := Lib.hid (HB.out.trans (hbq.mono HB.out.size))
            have kq := Lib.hid (Lok.new w1 47 #[.int .i64 x1, .int .i64 x2, .int .i64 x3])
            clear hbq
            generalize w1.alloc (.cells #[.int .i64 x1, .int .i64 x2, .int .i64 x3] 47) = Vq at *
            clear zq
            generalize w1.heap.size = g1 at *
            clear i0 i1 i2
            go_loopw [34] (fun y wr => ∃ m : Nat, y = .int .i64 m ∧ m ≤ 3 ∧ Below w.heap.size w wr ∧ Lok wr w.heap.size 25 #[.int .i64 0, .int .i64 0, .int .i64 0, .int .i64 0, .int .i64 0, .int .i64 0] ∧ Lok wr g1 47 #[.int .i64 x1, .int .i64 x2, .int .i64 x3] ∧ Lok wr g8 47 (mnA l1 l2 l3 x1 x2 x3 m) ∧ Lok wr g9 47 (mxA h1 h2 h3 x1 x2 x3 m)) (fun y _ => 3 - (intOf y).toNat)
            case atStart => exact ⟨0, rfl, Nat.zero_le _, HB.out, KY.out, kq.out, K4.out, K5.out⟩
            case round =>
              clear HB K4 K5 KY kq
              obtain ⟨m, rfl, hm, hB, hY, h1', h4, h5⟩ := hrel
              have HB := Lib.hid hB
              have KY := Lib.hid hY
              have K1 := Lib.hid h1'
              have K4 := Lib.hid h4
              have K5 := Lib.hid h5
              clear hB hY h1' h4 h5
              by_cases hl3 : m < 3
              · have d0 := K4.out.cell (mnA_at l1 l2 l3 x1 x2 x3 hl3)
                have d1 := K5.out.cell (mxA_at h1 h2 h3 x1 x2 x3 hl3)
                have d2 := K1.out.cell (pt_at x1 x2 x3 hl3)
                have f0 := K4.out.frozen m
                have f1 := K5.out.frozen m
                have SM4 := Lib.hid (mnA_set l1 l2 l3 x1 x2 x3 hl3)
                have SM5 := Lib.hid (mxA_set h1 h2 h3 x1 x2 x3 hl3)
                generalize pt l1 l2 l3 m = v0 at *
                generalize pt h1 h2 h3 m = v1 at *
                generalize pt x1 x2 x3 m = v2 at *
                have i0 : (0 : Int) ≤ (m : Int) := by omega
                have i1 : (m : Int) < 3 := by omega
                have i2 : ((m : Int)).toNat = m := by omega
                have n1 : ¬ g8 = g9 := n45
                have n2 : ¬ g9 = g8 := fun h => n45 h.symm
                go_upto_region 13 with fail
                go_region
                go_wp2
                go_roundw
                case rel =>
                  refine ⟨m + 1, by go_num, hl3, ?_, ?_, ?_, ?_, ?_⟩
                  · exact (((HB.out.setCell (by simp <;> omega) _).setCell (by simp <;> omega) _)).drew
                  · exact ((KY.out.far (by omega)).far (by omega)).drew
                  · exact ((K1.out.far (by omega)).far (by omega)).drew
                  · rw [← SM4.out]; exact ((K4.out.set).far (by omega)).drew
                  · rw [← SM5.out]; exact ((K5.out.far (by omega)).set).drew
                case measure => simp [intOf]; omega
              · obtain rfl : m = 3 := by omega
                have k4 : Lok wr g8 47 #[.int .i64 (min l1 x1), .int .i64 (min l2 x2), .int .i64 (min l3 x3)] := K4.out
                have k5 : Lok wr g9 47 #[.int .i64 (max h1 x1), .int .i64 (max h2 x2), .int .i64 (max h3 x3)] := K5.out
                rw [← E.out.1.1, ← E.out.1.2.1, ← E.out.1.2.2] at k4
                rw [← E.out.2.1, ← E.out.2.2.1, ← E.out.2.2.2] at k5
                have K4' := Lib.hid k4
                have K5' := Lib.hid k5
                clear k4 k5 K4 K5 K1
                go_wp2
                go_roundw
                case rel => exact ⟨k + 1, by go_num, hlt, HB.out, KY.out, K4'.out, K5'.out⟩
                case measure => simp [intOf]; omega
          · obtain rfl : k = n := by omega
            have hbound : w.heap.size ≤ wr.heap.size := HB.out.size
            have g4l : g8 < wr.heap.size := K4.out.lt
            have g5l : g9 < wr.heap.size := K5.out.lt
            have lk40 := K4.out
            have lk50 := K5.out
            have o50 := KY.out
            generalize e1 : lwF F 0 k = l1 at *
            generalize e2 : lwF F 1 k = l2 at *
            generalize e3 : lwF F 2 k = l3 at *
            generalize e4 : hiF F 0 k = h1 at *
            generalize e5 : hiF F 1 k = h2 at *
            generalize e6 : hiF F 2 k = h3 at *
            have E := Lib.hid (And.intro e1 (And.intro e2 (And.intro e3 (And.intro e4 (And.intro e5 e6)))))
            clear e1 e2 e3 e4 e5 e6
            go_upto_region 16 with fail
            refine wp_region_rel (by kernel_rfl) [57, 58, 59, 60, 61, 3] ?Fr1 ?hFr1
              (fun L u W => Below w.heap.size wr W ∧ (L 0 = true → u 57 = .agg #[.int .i64 l1, .int .i64 l2, .int .i64 l3]) ∧ (L 1 = true → u 58 = .agg #[.int .i64 l1, .int .i64 l2, .int .i64 l3]) ∧ (L 2 = true → u 59 = .agg #[.int .i64 h1, .int .i64 h2, .int .i64 h3]) ∧ (L 3 = true → u 60 = .agg #[.int .i64 h1, .int .i64 h2, .int .i64 h3]) ∧ (L 4 = true → u 61 = .agg #[.int .i64 l1, .int .i64 l2, .int .i64 l3, .int .i64 h1, .int .i64 h2, .int .i64 h3]) ∧ (L 6 = true → u 3 = .int .i64 0) ∧ (L 5 = false → Lok W (w.heap.size) 25 #[.int .i64 0, .int .i64 0, .int .i64 0, .int .i64 0, .int .i64 0, .int .i64 0]) ∧ (L 5 = true → Lok W (w.heap.size) 25 #[.int .i64 l1, .int .i64 l2, .int .i64 l3, .int .i64 h1, .int .i64 h2, .int .i64 h3]) ∧ Lok W (g8) 47 #[.int .i64 l1, .int .i64 l2, .int .i64 l3] ∧ Lok W (g9) 47 #[.int .i64 h1, .int .i64 h2, .int .i64 h3]) (by kernel_rfl) (by kernel_rfl) 7 rfl ?h0r1 ?stepr1 ?finr1
            case hFr1 => intro u; simp only [putAll, Act.put, List.setIfInBounds_toArray, List.set]; exact rfl
            case h0r1 => intro L u hL; exact ⟨(Below.refl _ _).drew, (fun h => by simp [hL] at h), (fun h => by simp [hL] at h), (fun h => by simp [hL] at h), (fun h => by simp [hL] at h), (fun h => by simp [hL] at h), (fun h => by simp [hL] at h), (fun _ => by assumption), (fun h => by simp [hL] at h), (by first | assumption | (apply Lok.drew; assumption)), (by first | assumption | (apply Lok.drew; assumption))⟩
            case stepr1 =>
              refine ops_all (ops_cons ?s0r1 (ops_cons ?s1r1 (ops_cons ?s2r1 (ops_cons ?s3r1 (ops_cons ?s4r1 (ops_cons ?s5r1 (ops_cons ?s6r1 (ops_nil))))))))
              case s0r1 =>
                rintro L u W ⟨hB, c0, c1, c2, c3, c4, c6, o5, wn5, lk4, lk5⟩ hf hd K hK
                dsimp only at hK
                have t0 := lk4.cell (i := 0) rfl
                have t1 := lk4.cell (i := 1) rfl
                have t2 := lk4.cell (i := 2) rfl
                clear hd
                go_simp
                refine hK _ _ ?_ (fun h => by cases h)
                intro s hs
                cases hs
                exact ⟨hB, (fun _ => rfl), c1, c2, c3, c4, c6, o5, wn5, lk4, lk5⟩
              case s1r1 =>
                rintro L u W ⟨hB, c0, c1, c2, c3, c4, c6, o5, wn5, lk4, lk5⟩ hf hd K hK
                dsimp only at hK
                have hd0 : L 0 = true := (by first | (refine hd ⟨0, .data⟩ ?_ rfl; simp; done) | (refine hd ⟨0, .guard⟩ ?_ rfl; simp; done) | (refine hd ⟨0, .phase⟩ ?_ rfl; simp; done) | (refine hd ⟨0, .chain⟩ ?_ rfl; simp; done))
                have e0 := c0 hd0
                rw [e0] at hK
                clear hd0
                clear hd
                go_simp
                go_wp2_with (go_at_call 24; ((with_reducible refine (QC.out _ _ _ _).mono ?_); rintro e w5 ⟨rfl, hb⟩))
                refine hK _ _ ?_ (fun h => by cases h)
                intro s hs
                cases hs
                exact ⟨hB.trans (hb.mono (Nat.le_trans hbound hB.size)), c0, (fun _ => rfl), c2, c3, c4, c6, (fun h => (o5 h).keep hb), (fun h => (wn5 h).keep hb), (lk4.keep hb), (lk5.keep hb)⟩
              case s2r1 =>
                rintro L u W ⟨hB, c0, c1, c2, c3, c4, c6, o5, wn5, lk4, lk5⟩ hf hd K hK
                dsimp only at hK
                have t0 := lk5.cell (i := 0) rfl
                have t1 := lk5.cell (i := 1) rfl
                have t2 := lk5.cell (i := 2) rfl
                clear hd
                go_simp
                refine hK _ _ ?_ (fun h => by cases h)
                intro s hs
                cases hs
                exact ⟨hB, c0, c1, (fun _ => rfl), c3, c4, c6, o5, wn5, lk4, lk5⟩
              case s3r1 =>
                rintro L u W ⟨hB, c0, c1, c2, c3, c4, c6, o5, wn5, lk4, lk5⟩ hf hd K hK
                dsimp only at hK
                have hd2 : L 2 = true := (by first | (refine hd ⟨2, .data⟩ ?_ rfl; simp; done) | (refine hd ⟨2, .guard⟩ ?_ rfl; simp; done) | (refine hd ⟨2, .phase⟩ ?_ rfl; simp; done) | (refine hd ⟨2, .chain⟩ ?_ rfl; simp; done))
                have e2 := c2 hd2
                rw [e2] at hK
                clear hd2
                clear hd
                go_simp
                go_wp2_with (go_at_call 24; ((with_reducible refine (QC.out _ _ _ _).mono ?_); rintro e w5 ⟨rfl, hb⟩))
                refine hK _ _ ?_ (fun h => by cases h)
                intro s hs
                cases hs
                exact ⟨hB.trans (hb.mono (Nat.le_trans hbound hB.size)), c0, c1, c2, (fun _ => rfl), c4, c6, (fun h => (o5 h).keep hb), (fun h => (wn5 h).keep hb), (lk4.keep hb), (lk5.keep hb)⟩
              case s4r1 =>
                rintro L u W ⟨hB, c0, c1, c2, c3, c4, c6, o5, wn5, lk4, lk5⟩ hf hd K hK
                dsimp only at hK
                have hd1 : L 1 = true := (by first | (refine hd ⟨1, .data⟩ ?_ rfl; simp; done) | (refine hd ⟨1, .guard⟩ ?_ rfl; simp; done) | (refine hd ⟨1, .phase⟩ ?_ rfl; simp; done) | (refine hd ⟨1, .chain⟩ ?_ rfl; simp; done))
                have hd3 : L 3 = true := (by first | (refine hd ⟨3, .data⟩ ?_ rfl; simp; done) | (refine hd ⟨3, .guard⟩ ?_ rfl; simp; done) | (refine hd ⟨3, .phase⟩ ?_ rfl; simp; done) | (refine hd ⟨3, .chain⟩ ?_ rfl; simp; done))
                have e1 := c1 hd1
                rw [e1] at hK
                have e3 := c3 hd3
                rw [e3] at hK
                clear hd1
                clear hd3
                clear hd
                go_simp
                refine hK _ _ ?_ (fun h => by cases h)
                intro s hs
                cases hs
                exact ⟨hB, c0, c1, c2, c3, (fun _ => rfl), c6, o5, wn5, lk4, lk5⟩
              case s5r1 =>
                rintro L u W ⟨hB, c0, c1, c2, c3, c4, c6, o5, wn5, lk4, lk5⟩ hf hd K hK
                dsimp only at hK
                have hd4 : L 4 = true := (by first | (refine hd ⟨4, .data⟩ ?_ rfl; simp; done) | (refine hd ⟨4, .phase⟩ ?_ rfl; simp; done))
                have k3 := o5 hf
                have e4 := c4 hd4
                rw [e4] at hK
                have t0 := k3.cell (i := 0) rfl
                have f0 := k3.frozen 0
                have t1 := k3.cell (i := 1) rfl
                have f1 := k3.frozen 1
                have t2 := k3.cell (i := 2) rfl
                have f2 := k3.frozen 2
                have t3 := k3.cell (i := 3) rfl
                have f3 := k3.frozen 3
                have t4 := k3.cell (i := 4) rfl
                have f4 := k3.frozen 4
                have t5 := k3.cell (i := 5) rfl
                have f5 := k3.frozen 5
                clear hd
                have hd4' := Lib.hid hd4
                clear hd4
                go_simp
                have hd4 := hd4'.out
                have hlok := (((((k3.set (i := 0) (v := .int .i64 l1)).set (i := 1) (v := .int .i64 l2)).set (i := 2) (v := .int .i64 l3)).set (i := 3) (v := .int .i64 h1)).set (i := 4) (v := .int .i64 h2)).set (i := 5) (v := .int .i64 h3)
                refine hK undef _ (fun s h => by cases h) (fun _ => ?_)
                exact ⟨(((((hB.setCell (by first | exact Nat.le_refl _ | assumption | (show _ ≤ _; omega) | (show (w.heap.size) ≤ (w.heap.size); omega)) _).setCell (by first | exact Nat.le_refl _ | assumption | (show _ ≤ _; omega) | (show (w.heap.size) ≤ (w.heap.size); omega)) _).setCell (by first | exact Nat.le_refl _ | assumption | (show _ ≤ _; omega) | (show (w.heap.size) ≤ (w.heap.size); omega)) _).setCell (by first | exact Nat.le_refl _ | assumption | (show _ ≤ _; omega) | (show (w.heap.size) ≤ (w.heap.size); omega)) _).setCell (by first | exact Nat.le_refl _ | assumption | (show _ ≤ _; omega) | (show (w.heap.size) ≤ (w.heap.size); omega)) _).setCell (by first | exact Nat.le_refl _ | assumption | (show _ ≤ _; omega) | (show (w.heap.size) ≤ (w.heap.size); omega)) _, c0, c1, c2, c3, (fun _ => rfl), c6, (fun h => by cases h), (fun _ => hlok), ((((((lk4.far (by first | assumption | omega)).far (by first | assumption | omega)).far (by first | assumption | omega)).far (by first | assumption | omega)).far (by first | assumption | omega)).far (by first | assumption | omega)), ((((((lk5.far (by first | assumption | omega)).far (by first | assumption | omega)).far (by first | assumption | omega)).far (by first | assumption | omega)).far (by first | assumption | omega)).far (by first | assumption | omega))⟩
              case s6r1 =>
                rintro L u W ⟨hB, c0, c1, c2, c3, c4, c6, o5, wn5, lk4, lk5⟩ hf hd K hK
                dsimp only at hK
                clear hd
                go_simp
                refine hK _ _ ?_ (fun h => by cases h)
                intro s hs
                cases hs
                exact ⟨hB, c0, c1, c2, c3, c4, (fun _ => rfl), o5, wn5, lk4, lk5⟩
            case finr1 =>
              rintro L u W hL ⟨hB, c0, c1, c2, c3, c4, c6, o5, wn5, lk4, lk5⟩
              have e0 := c0 (hL 0 (by decide))
              have e1 := c1 (hL 1 (by decide))
              have e2 := c2 (hL 2 (by decide))
              have e3 := c3 (hL 3 (by decide))
              have e4 := c4 (hL 4 (by decide))
              have e6 := c6 (hL 6 (by decide))
              have hlok5 := wn5 (hL 5 (by decide))
              clear hL c0 c1 c2 c3 c4 c6 o5 wn5
              try simp only [e0, e1, e2, e3, e4, e6]
              clear e0 e1 e2 e3 e4 e6
              have y0 := hlok5.cell (i := 0) rfl
              have y1 := hlok5.cell (i := 1) rfl
              have y2 := hlok5.cell (i := 2) rfl
              have y3 := hlok5.cell (i := 3) rfl
              have y4 := hlok5.cell (i := 4) rfl
              have y5 := hlok5.cell (i := 5) rfl
              go_wp2_with fail
              exact bodyPost_ret (v := .tuple #[.agg #[.int .i64 l1, .int .i64 l2, .int .i64 l3, .int .i64 h1, .int .i64 h2, .int .i64 h3], .int .i64 0]) (by simp [results, Try.results8, go_sem, y0, y1, y2, y3, y4, y5]) rfl ⟨by rw [E.out.1, E.out.2.1, E.out.2.2.1, E.out.2.2.2.1, E.out.2.2.2.2.1, E.out.2.2.2.2.2], HB.out.trans (hB.mono (Nat.le_refl _))⟩
theorem bxE_n {n : Nat} (h : ¬ n = 0) (t : Bool) : bxE n t = rE t := by unfold bxE; rw [if_neg h]; cases t <;> rfl
theorem bxY_n {n : Nat} (h : ¬ n = 0) (t : Bool) : bxY n t = t := by unfold bxY; rw [decide_eq_false h]; cases t <;> rfl
theorem slof_1 (a1 a2 a3 : Int) (t : Bool) (ht : (s3 a1 a2 a3) = t) (g : Nat) (T : TypeId) (w : World) (h : Lok w g T #[.int .i64 a1, .int .i64 a2, .int .i64 a3]) :
    Calls Try.prog 8 #[.slice (some ⟨g, 0, none⟩) 1 1] w fun e' w' => e' = .returned (.tuple #[.agg #[.int .i64 (vF t (a1)), .int .i64 (vF t (a2)), .int .i64 (vF t (a3)), .int .i64 (vF t (a1)), .int .i64 (vF t (a2)), .int .i64 (vF t (a3))], .int .i64 (rE t)]) ∧ Below w.heap.size w w' := by
  have q := slof_any _ 1 1 _ w (rowK_ints (n := 1) (k := 3) [a1, a2, a3] h rfl) (by omega)
  rw [show aS3 (rowOf 3 [a1, a2, a3]) 1 = t from by rw [← ht]; simp [aS3, allB, rowOf], bxE_n (by decide), bxY_n (by decide)] at q
  rw [show lwF (rowOf 3 [a1, a2, a3]) 0 1 = a1 from by simp [lwF, rowOf, Int.min_self], show hiF (rowOf 3 [a1, a2, a3]) 0 1 = a1 from by simp [hiF, rowOf, Int.max_self]] at q
  rw [show lwF (rowOf 3 [a1, a2, a3]) 1 1 = a2 from by simp [lwF, rowOf, Int.min_self], show hiF (rowOf 3 [a1, a2, a3]) 1 1 = a2 from by simp [hiF, rowOf, Int.max_self]] at q
  rw [show lwF (rowOf 3 [a1, a2, a3]) 2 1 = a3 from by simp [lwF, rowOf, Int.min_self], show hiF (rowOf 3 [a1, a2, a3]) 2 1 = a3 from by simp [hiF, rowOf, Int.max_self]] at q
  exact q
theorem slof_2 (a1 a2 a3 b1 b2 b3 : Int) (t : Bool) (ht : (s3 a1 a2 a3 && s3 b1 b2 b3) = t) (g : Nat) (T : TypeId) (w : World) (h : Lok w g T #[.int .i64 a1, .int .i64 a2, .int .i64 a3, .int .i64 b1, .int .i64 b2, .int .i64 b3]) :
    Calls Try.prog 8 #[.slice (some ⟨g, 0, none⟩) 2 2] w fun e' w' => e' = .returned (.tuple #[.agg #[.int .i64 (vF t (min a1 b1)), .int .i64 (vF t (min a2 b2)), .int .i64 (vF t (min a3 b3)), .int .i64 (vF t (max a1 b1)), .int .i64 (vF t (max a2 b2)), .int .i64 (vF t (max a3 b3))], .int .i64 (rE t)]) ∧ Below w.heap.size w w' := by
  have q := slof_any _ 2 2 _ w (rowK_ints (n := 2) (k := 3) [a1, a2, a3, b1, b2, b3] h rfl) (by omega)
  rw [show aS3 (rowOf 3 [a1, a2, a3, b1, b2, b3]) 2 = t from by rw [← ht]; simp [aS3, allB, rowOf], bxE_n (by decide), bxY_n (by decide)] at q
  rw [show lwF (rowOf 3 [a1, a2, a3, b1, b2, b3]) 0 2 = min a1 b1 from by simp [lwF, rowOf, Int.min_self], show hiF (rowOf 3 [a1, a2, a3, b1, b2, b3]) 0 2 = max a1 b1 from by simp [hiF, rowOf, Int.max_self]] at q
  rw [show lwF (rowOf 3 [a1, a2, a3, b1, b2, b3]) 1 2 = min a2 b2 from by simp [lwF, rowOf, Int.min_self], show hiF (rowOf 3 [a1, a2, a3, b1, b2, b3]) 1 2 = max a2 b2 from by simp [hiF, rowOf, Int.max_self]] at q
  rw [show lwF (rowOf 3 [a1, a2, a3, b1, b2, b3]) 2 2 = min a3 b3 from by simp [lwF, rowOf, Int.min_self], show hiF (rowOf 3 [a1, a2, a3, b1, b2, b3]) 2 2 = max a3 b3 from by simp [hiF, rowOf, Int.max_self]] at q
  exact q
theorem slof_3 (a1 a2 a3 b1 b2 b3 c1 c2 c3 : Int) (t : Bool) (ht : (s3 a1 a2 a3 && s3 b1 b2 b3 && s3 c1 c2 c3) = t) (g : Nat) (T : TypeId) (w : World) (h : Lok w g T #[.int .i64 a1, .int .i64 a2, .int .i64 a3, .int .i64 b1, .int .i64 b2, .int .i64 b3, .int .i64 c1, .int .i64 c2, .int .i64 c3]) :
    Calls Try.prog 8 #[.slice (some ⟨g, 0, none⟩) 3 3] w fun e' w' => e' = .returned (.tuple #[.agg #[.int .i64 (vF t (min (min a1 b1) c1)), .int .i64 (vF t (min (min a2 b2) c2)), .int .i64 (vF t (min (min a3 b3) c3)), .int .i64 (vF t (max (max a1 b1) c1)), .int .i64 (vF t (max (max a2 b2) c2)), .int .i64 (vF t (max (max a3 b3) c3))], .int .i64 (rE t)]) ∧ Below w.heap.size w w' := by
  have q := slof_any _ 3 3 _ w (rowK_ints (n := 3) (k := 3) [a1, a2, a3, b1, b2, b3, c1, c2, c3] h rfl) (by omega)
  rw [show aS3 (rowOf 3 [a1, a2, a3, b1, b2, b3, c1, c2, c3]) 3 = t from by rw [← ht]; simp [aS3, allB, rowOf], bxE_n (by decide), bxY_n (by decide)] at q
  rw [show lwF (rowOf 3 [a1, a2, a3, b1, b2, b3, c1, c2, c3]) 0 3 = min (min a1 b1) c1 from by simp [lwF, rowOf, Int.min_self], show hiF (rowOf 3 [a1, a2, a3, b1, b2, b3, c1, c2, c3]) 0 3 = max (max a1 b1) c1 from by simp [hiF, rowOf, Int.max_self]] at q
  rw [show lwF (rowOf 3 [a1, a2, a3, b1, b2, b3, c1, c2, c3]) 1 3 = min (min a2 b2) c2 from by simp [lwF, rowOf, Int.min_self], show hiF (rowOf 3 [a1, a2, a3, b1, b2, b3, c1, c2, c3]) 1 3 = max (max a2 b2) c2 from by simp [hiF, rowOf, Int.max_self]] at q
  rw [show lwF (rowOf 3 [a1, a2, a3, b1, b2, b3, c1, c2, c3]) 2 3 = min (min a3 b3) c3 from by simp [lwF, rowOf, Int.min_self], show hiF (rowOf 3 [a1, a2, a3, b1, b2, b3, c1, c2, c3]) 2 3 = max (max a3 b3) c3 from by simp [hiF, rowOf, Int.max_self]] at q
  exact q
theorem slof_4 (a1 a2 a3 b1 b2 b3 c1 c2 c3 d1 d2 d3 : Int) (t : Bool) (ht : (s3 a1 a2 a3 && s3 b1 b2 b3 && s3 c1 c2 c3 && s3 d1 d2 d3) = t) (g : Nat) (T : TypeId) (w : World) (h : Lok w g T #[.int .i64 a1, .int .i64 a2, .int .i64 a3, .int .i64 b1, .int .i64 b2, .int .i64 b3, .int .i64 c1, .int .i64 c2, .int .i64 c3, .int .i64 d1, .int .i64 d2, .int .i64 d3]) :
    Calls Try.prog 8 #[.slice (some ⟨g, 0, none⟩) 4 4] w fun e' w' => e' = .returned (.tuple #[.agg #[.int .i64 (vF t (min (min (min a1 b1) c1) d1)), .int .i64 (vF t (min (min (min a2 b2) c2) d2)), .int .i64 (vF t (min (min (min a3 b3) c3) d3)), .int .i64 (vF t (max (max (max a1 b1) c1) d1)), .int .i64 (vF t (max (max (max a2 b2) c2) d2)), .int .i64 (vF t (max (max (max a3 b3) c3) d3))], .int .i64 (rE t)]) ∧ Below w.heap.size w w' := by
  have q := slof_any _ 4 4 _ w (rowK_ints (n := 4) (k := 3) [a1, a2, a3, b1, b2, b3, c1, c2, c3, d1, d2, d3] h rfl) (by omega)
  rw [show aS3 (rowOf 3 [a1, a2, a3, b1, b2, b3, c1, c2, c3, d1, d2, d3]) 4 = t from by rw [← ht]; simp [aS3, allB, rowOf], bxE_n (by decide), bxY_n (by decide)] at q
  rw [show lwF (rowOf 3 [a1, a2, a3, b1, b2, b3, c1, c2, c3, d1, d2, d3]) 0 4 = min (min (min a1 b1) c1) d1 from by simp [lwF, rowOf, Int.min_self], show hiF (rowOf 3 [a1, a2, a3, b1, b2, b3, c1, c2, c3, d1, d2, d3]) 0 4 = max (max (max a1 b1) c1) d1 from by simp [hiF, rowOf, Int.max_self]] at q
  rw [show lwF (rowOf 3 [a1, a2, a3, b1, b2, b3, c1, c2, c3, d1, d2, d3]) 1 4 = min (min (min a2 b2) c2) d2 from by simp [lwF, rowOf, Int.min_self], show hiF (rowOf 3 [a1, a2, a3, b1, b2, b3, c1, c2, c3, d1, d2, d3]) 1 4 = max (max (max a2 b2) c2) d2 from by simp [hiF, rowOf, Int.max_self]] at q
  rw [show lwF (rowOf 3 [a1, a2, a3, b1, b2, b3, c1, c2, c3, d1, d2, d3]) 2 4 = min (min (min a3 b3) c3) d3 from by simp [lwF, rowOf, Int.min_self], show hiF (rowOf 3 [a1, a2, a3, b1, b2, b3, c1, c2, c3, d1, d2, d3]) 2 4 = max (max (max a3 b3) c3) d3 from by simp [hiF, rowOf, Int.max_self]] at q
  exact q
/-- No points at all. -/
theorem slof_0 (w : World) : Calls Try.prog 8 #[.slice none 0 0] w fun e' w' => e' = .returned (.tuple #[.agg #[.int .i64 0, .int .i64 0, .int .i64 0, .int .i64 0, .int .i64 0, .int .i64 0], .int .i64 1]) ∧ Below w.heap.size w w' := by
  have q := slof_any none 0 0 (fun _ _ => 0) w (Or.inl rfl) (by omega)
  rw [show bxE 0 (aS3 (fun _ _ => 0) 0) = 1 from rfl, show bxY 0 (aS3 (fun _ _ => 0) 0) = false from rfl] at q
  simp only [vF_no] at q
  exact q
set_option maxRecDepth 100000 in
set_option maxHeartbeats 8000000 in
theorem sljoin_any (l1 l2 l3 h1 h2 h3 m1 m2 m3 k1 k2 k3 : Int) (w : World) :
    Calls Try.prog 10 #[.agg #[.int .i64 l1, .int .i64 l2, .int .i64 l3, .int .i64 h1, .int .i64 h2, .int .i64 h3], .agg #[.int .i64 m1, .int .i64 m2, .int .i64 m3, .int .i64 k1, .int .i64 k2, .int .i64 k3]] w fun e' w' => e' = .returned (.tuple #[.agg #[.int .i64 (vF (bxR l1 l2 l3 h1 h2 h3 && bxR m1 m2 m3 k1 k2 k3) (min l1 m1)), .int .i64 (vF (bxR l1 l2 l3 h1 h2 h3 && bxR m1 m2 m3 k1 k2 k3) (min l2 m2)), .int .i64 (vF (bxR l1 l2 l3 h1 h2 h3 && bxR m1 m2 m3 k1 k2 k3) (min l3 m3)), .int .i64 (vF (bxR l1 l2 l3 h1 h2 h3 && bxR m1 m2 m3 k1 k2 k3) (max h1 k1)), .int .i64 (vF (bxR l1 l2 l3 h1 h2 h3 && bxR m1 m2 m3 k1 k2 k3) (max h2 k2)), .int .i64 (vF (bxR l1 l2 l3 h1 h2 h3 && bxR m1 m2 m3 k1 k2 k3) (max h3 k3))], .int .i64 (aE (bxR l1 l2 l3 h1 h2 h3 && bxR m1 m2 m3 k1 k2 k3))]) ∧ Below w.heap.size w w' := by
  have HB := Lib.hid (Below.refl w.heap.size w)
  have S1 := Lib.hid (fun W => slis_any l1 l2 l3 h1 h2 h3 W)
  have S2 := Lib.hid (fun W => slis_any m1 m2 m3 k1 k2 k3 W)
  cases h1' : bxR l1 l2 l3 h1 h2 h3 with
  | false =>
    rw [h1'] at S1
    rw [Bool.false_and, show aE false = 1 from rfl]
    simp only [vF_no]
    clear h1' S2
    go_enter Try.func10, Try.ntmps10
    go_upto_region 1 with fail
    have hba := below_new1 w (.cells #[.int .i64 l1, .int .i64 l2, .int .i64 l3, .int .i64 h1, .int .i64 h2, .int .i64 h3] 25)
    have za : (w.alloc (.cells #[.int .i64 l1, .int .i64 l2, .int .i64 l3, .int .i64 h1, .int .i64 h2, .int .i64 h3] 25)).heap.size = w.heap.size + 1 := by simp
    have HB := Lib.hid hba
    have ka := Lib.hid (Lok.new w 25 #[.int .i64 l1, .int .i64 l2, .int .i64 l3, .int .i64 h1, .int .i64 h2, .int .i64 h3])
    clear hba
    generalize w.alloc (.cells #[.int .i64 l1, .int .i64 l2, .int .i64 l3, .int .i64 h1, .int .i64 h2, .int .i64 h3] 25) = Va at *
    have hbb := below_new1 Va (.cells #[.int .i64 m1, .int .i64 m2, .int .i64 m3, .int .i64 k1, .int .i64 k2, .int .i64 k3] 25)
    replace ka := Lib.hid (ka.out.keep hbb)
    have zb : (Va.alloc (.cells #[.int .i64 m1, .int .i64 m2, .int .i64 m3, .int .i64 k1, .int .i64 k2, .int .i64 k3] 25)).heap.size = Va.heap.size + 1 := by simp
    replace HB := Lib.hid (HB.out.trans (hbb.mono HB.out.size))
    have kb := Lib.hid (Lok.new Va 25 #[.int .i64 m1, .int .i64 m2, .int .i64 m3, .int .i64 k1, .int .i64 k2, .int .i64 k3])
    clear hbb
    generalize Va.alloc (.cells #[.int .i64 m1, .int .i64 m2, .int .i64 m3, .int .i64 k1, .int .i64 k2, .int .i64 k3] 25) = Vb at *
    rw [za] at kb zb
    have hby := below_new1 Vb (.cells #[.int .i64 0, .int .i64 0, .int .i64 0, .int .i64 0, .int .i64 0, .int .i64 0] 25)
    replace ka := Lib.hid (ka.out.keep hby)
    replace kb := Lib.hid (kb.out.keep hby)
    have zy : (Vb.alloc (.cells #[.int .i64 0, .int .i64 0, .int .i64 0, .int .i64 0, .int .i64 0, .int .i64 0] 25)).heap.size = Vb.heap.size + 1 := by simp
    replace HB := Lib.hid (HB.out.trans (hby.mono HB.out.size))
    have ky := Lib.hid (Lok.new Vb 25 #[.int .i64 0, .int .i64 0, .int .i64 0, .int .i64 0, .int .i64 0, .int .i64 0])
    clear hby
    generalize Vb.alloc (.cells #[.int .i64 0, .int .i64 0, .int .i64 0, .int .i64 0, .int .i64 0, .int .i64 0] 25) = Vy at *
    rw [zb] at ky
    clear za zb zy
    have a0 := ka.out.cell (i := 0) rfl
    have a1 := ka.out.cell (i := 1) rfl
    have a2 := ka.out.cell (i := 2) rfl
    have a3 := ka.out.cell (i := 3) rfl
    have a4 := ka.out.cell (i := 4) rfl
    have a5 := ka.out.cell (i := 5) rfl
    have b0 := kb.out.cell (i := 0) rfl
    have b1 := kb.out.cell (i := 1) rfl
    have b2 := kb.out.cell (i := 2) rfl
    have b3 := kb.out.cell (i := 3) rfl
    have b4 := kb.out.cell (i := 4) rfl
    have b5 := kb.out.cell (i := 5) rfl
    go_wp2_with fail
    clear a0 a1 a2 a3 a4 a5 b0 b1 b2 b3 b4 b5
    (((with_reducible refine (S1.out _).mono ?_); rintro e w1 ⟨rfl, hb1⟩); replace HB := Lib.hid (HB.out.trans (hb1.mono HB.out.size)); replace ka := Lib.hid (ka.out.keep hb1); replace kb := Lib.hid (kb.out.keep hb1); replace ky := Lib.hid (ky.out.keep hb1); clear hb1)
    clear S1 ka kb
    have y0 := ky.out.cell (i := 0) rfl
    have y1 := ky.out.cell (i := 1) rfl
    have y2 := ky.out.cell (i := 2) rfl
    have y3 := ky.out.cell (i := 3) rfl
    have y4 := ky.out.cell (i := 4) rfl
    have y5 := ky.out.cell (i := 5) rfl
    have fy0 := ky.out.frozen 0
    have fy1 := ky.out.frozen 1
    have fy2 := ky.out.frozen 2
    have fy3 := ky.out.frozen 3
    have fy4 := ky.out.frozen 4
    have fy5 := ky.out.frozen 5
    go_wp2_with fail
    exact bodyPost_ret (v := .tuple #[.agg #[.int .i64 0, .int .i64 0, .int .i64 0, .int .i64 0, .int .i64 0, .int .i64 0], .int .i64 1]) (by simp [results, Try.results10, go_sem, y0, y1, y2, y3, y4, y5]) rfl ⟨rfl, (((((HB.out.setCell (by simp <;> omega) _).setCell (by simp <;> omega) _).setCell (by simp <;> omega) _).setCell (by simp <;> omega) _).setCell (by simp <;> omega) _).setCell (by simp <;> omega) _⟩
  | true =>
    cases h2' : bxR m1 m2 m3 k1 k2 k3 with
    | false =>
      rw [h1'] at S1
      rw [h2'] at S2
      rw [Bool.true_and, show aE false = 1 from rfl]
      simp only [vF_no]
      clear h1' h2'
      go_enter Try.func10, Try.ntmps10
      go_upto_region 1 with fail
      have hba := below_new1 w (.cells #[.int .i64 l1, .int .i64 l2, .int .i64 l3, .int .i64 h1, .int .i64 h2, .int .i64 h3] 25)
      have za : (w.alloc (.cells #[.int .i64 l1, .int .i64 l2, .int .i64 l3, .int .i64 h1, .int .i64 h2, .int .i64 h3] 25)).heap.size = w.heap.size + 1 := by simp
      have HB := Lib.hid hba
      have ka := Lib.hid (Lok.new w 25 #[.int .i64 l1, .int .i64 l2, .int .i64 l3, .int .i64 h1, .int .i64 h2, .int .i64 h3])
      clear hba
      generalize w.alloc (.cells #[.int .i64 l1, .int .i64 l2, .int .i64 l3, .int .i64 h1, .int .i64 h2, .int .i64 h3] 25) = Va at *
      have hbb := below_new1 Va (.cells #[.int .i64 m1, .int .i64 m2, .int .i64 m3, .int .i64 k1, .int .i64 k2, .int .i64 k3] 25)
      replace ka := Lib.hid (ka.out.keep hbb)
      have zb : (Va.alloc (.cells #[.int .i64 m1, .int .i64 m2, .int .i64 m3, .int .i64 k1, .int .i64 k2, .int .i64 k3] 25)).heap.size = Va.heap.size + 1 := by simp
      replace HB := Lib.hid (HB.out.trans (hbb.mono HB.out.size))
      have kb := Lib.hid (Lok.new Va 25 #[.int .i64 m1, .int .i64 m2, .int .i64 m3, .int .i64 k1, .int .i64 k2, .int .i64 k3])
      clear hbb
      generalize Va.alloc (.cells #[.int .i64 m1, .int .i64 m2, .int .i64 m3, .int .i64 k1, .int .i64 k2, .int .i64 k3] 25) = Vb at *
      rw [za] at kb zb
      have hby := below_new1 Vb (.cells #[.int .i64 0, .int .i64 0, .int .i64 0, .int .i64 0, .int .i64 0, .int .i64 0] 25)
      replace ka := Lib.hid (ka.out.keep hby)
      replace kb := Lib.hid (kb.out.keep hby)
      have zy : (Vb.alloc (.cells #[.int .i64 0, .int .i64 0, .int .i64 0, .int .i64 0, .int .i64 0, .int .i64 0] 25)).heap.size = Vb.heap.size + 1 := by simp
      replace HB := Lib.hid (HB.out.trans (hby.mono HB.out.size))
      have ky := Lib.hid (Lok.new Vb 25 #[.int .i64 0, .int .i64 0, .int .i64 0, .int .i64 0, .int .i64 0, .int .i64 0])
      clear hby
      generalize Vb.alloc (.cells #[.int .i64 0, .int .i64 0, .int .i64 0, .int .i64 0, .int .i64 0, .int .i64 0] 25) = Vy at *
      rw [zb] at ky
      clear za zb zy
      have a0 := ka.out.cell (i := 0) rfl
      have a1 := ka.out.cell (i := 1) rfl
      have a2 := ka.out.cell (i := 2) rfl
      have a3 := ka.out.cell (i := 3) rfl
      have a4 := ka.out.cell (i := 4) rfl
      have a5 := ka.out.cell (i := 5) rfl
      have b0 := kb.out.cell (i := 0) rfl
      have b1 := kb.out.cell (i := 1) rfl
      have b2 := kb.out.cell (i := 2) rfl
      have b3 := kb.out.cell (i := 3) rfl
      have b4 := kb.out.cell (i := 4) rfl
      have b5 := kb.out.cell (i := 5) rfl
      go_wp2_with fail
      clear a0 a1 a2 a3 a4 a5 b0 b1 b2 b3 b4 b5
      (((with_reducible refine (S1.out _).mono ?_); rintro e w1 ⟨rfl, hb1⟩); replace HB := Lib.hid (HB.out.trans (hb1.mono HB.out.size)); replace ka := Lib.hid (ka.out.keep hb1); replace kb := Lib.hid (kb.out.keep hb1); replace ky := Lib.hid (ky.out.keep hb1); clear hb1)
      have a0 := ka.out.cell (i := 0) rfl
      have a1 := ka.out.cell (i := 1) rfl
      have a2 := ka.out.cell (i := 2) rfl
      have a3 := ka.out.cell (i := 3) rfl
      have a4 := ka.out.cell (i := 4) rfl
      have a5 := ka.out.cell (i := 5) rfl
      have b0 := kb.out.cell (i := 0) rfl
      have b1 := kb.out.cell (i := 1) rfl
      have b2 := kb.out.cell (i := 2) rfl
      have b3 := kb.out.cell (i := 3) rfl
      have b4 := kb.out.cell (i := 4) rfl
      have b5 := kb.out.cell (i := 5) rfl
      go_wp2_with fail
      clear a0 a1 a2 a3 a4 a5 b0 b1 b2 b3 b4 b5
      (((with_reducible refine (S2.out _).mono ?_); rintro e w2 ⟨rfl, hb2⟩); replace HB := Lib.hid (HB.out.trans (hb2.mono HB.out.size)); replace ka := Lib.hid (ka.out.keep hb2); replace kb := Lib.hid (kb.out.keep hb2); replace ky := Lib.hid (ky.out.keep hb2); clear hb2)
      clear S1 S2 ka kb
      have y0 := ky.out.cell (i := 0) rfl
      have y1 := ky.out.cell (i := 1) rfl
      have y2 := ky.out.cell (i := 2) rfl
      have y3 := ky.out.cell (i := 3) rfl
      have y4 := ky.out.cell (i := 4) rfl
      have y5 := ky.out.cell (i := 5) rfl
      have fy0 := ky.out.frozen 0
      have fy1 := ky.out.frozen 1
      have fy2 := ky.out.frozen 2
      have fy3 := ky.out.frozen 3
      have fy4 := ky.out.frozen 4
      have fy5 := ky.out.frozen 5
      go_wp2_with fail
      exact bodyPost_ret (v := .tuple #[.agg #[.int .i64 0, .int .i64 0, .int .i64 0, .int .i64 0, .int .i64 0, .int .i64 0], .int .i64 1]) (by simp [results, Try.results10, go_sem, y0, y1, y2, y3, y4, y5]) rfl ⟨rfl, (((((HB.out.setCell (by simp <;> omega) _).setCell (by simp <;> omega) _).setCell (by simp <;> omega) _).setCell (by simp <;> omega) _).setCell (by simp <;> omega) _).setCell (by simp <;> omega) _⟩
    | true =>
      rw [Bool.true_and, show aE true = 0 from rfl]
      simp only [vF_yes]
      obtain ⟨⟨p1, p2⟩, q1, q2, q3⟩ := bxR_iff.1 h1'
      obtain ⟨⟨p3, p4⟩, q4, q5, q6⟩ := bxR_iff.1 h2'
      have O := Lib.hid (fun g T W h => slof_4 l1 l2 l3 h1 h2 h3 m1 m2 m3 k1 k2 k3 true (by rw [p1, p2, p3, p4]; rfl) g T W h)
      simp only [vF_yes, show rE true = 0 from rfl] at O
      rw [show min (min (min l1 h1) m1) k1 = min l1 m1 from by omega, show max (max (max l1 h1) m1) k1 = max h1 k1 from by omega] at O
      rw [show min (min (min l2 h2) m2) k2 = min l2 m2 from by omega, show max (max (max l2 h2) m2) k2 = max h2 k2 from by omega] at O
      rw [show min (min (min l3 h3) m3) k3 = min l3 m3 from by omega, show max (max (max l3 h3) m3) k3 = max h3 k3 from by omega] at O
      generalize min l1 m1 = u0 at *
      generalize max h1 k1 = v0 at *
      generalize min l2 m2 = u1 at *
      generalize max h2 k2 = v1 at *
      generalize min l3 m3 = u2 at *
      generalize max h3 k3 = v2 at *
      rw [h1'] at S1
      rw [h2'] at S2
      clear h1' h2' p1 p2 p3 p4 q1 q2 q3 q4 q5 q6
      go_enter Try.func10, Try.ntmps10
      go_upto_region 1 with fail
      have hba := below_new1 w (.cells #[.int .i64 l1, .int .i64 l2, .int .i64 l3, .int .i64 h1, .int .i64 h2, .int .i64 h3] 25)
      have za : (w.alloc (.cells #[.int .i64 l1, .int .i64 l2, .int .i64 l3, .int .i64 h1, .int .i64 h2, .int .i64 h3] 25)).heap.size = w.heap.size + 1 := by simp
      have HB := Lib.hid hba
      have ka := Lib.hid (Lok.new w 25 #[.int .i64 l1, .int .i64 l2, .int .i64 l3, .int .i64 h1, .int .i64 h2, .int .i64 h3])
      clear hba
      generalize w.alloc (.cells #[.int .i64 l1, .int .i64 l2, .int .i64 l3, .int .i64 h1, .int .i64 h2, .int .i64 h3] 25) = Va at *
      have hbb := below_new1 Va (.cells #[.int .i64 m1, .int .i64 m2, .int .i64 m3, .int .i64 k1, .int .i64 k2, .int .i64 k3] 25)
      replace ka := Lib.hid (ka.out.keep hbb)
      have zb : (Va.alloc (.cells #[.int .i64 m1, .int .i64 m2, .int .i64 m3, .int .i64 k1, .int .i64 k2, .int .i64 k3] 25)).heap.size = Va.heap.size + 1 := by simp
      replace HB := Lib.hid (HB.out.trans (hbb.mono HB.out.size))
      have kb := Lib.hid (Lok.new Va 25 #[.int .i64 m1, .int .i64 m2, .int .i64 m3, .int .i64 k1, .int .i64 k2, .int .i64 k3])
      clear hbb
      generalize Va.alloc (.cells #[.int .i64 m1, .int .i64 m2, .int .i64 m3, .int .i64 k1, .int .i64 k2, .int .i64 k3] 25) = Vb at *
      rw [za] at kb zb
      have hby := below_new1 Vb (.cells #[.int .i64 0, .int .i64 0, .int .i64 0, .int .i64 0, .int .i64 0, .int .i64 0] 25)
      replace ka := Lib.hid (ka.out.keep hby)
      replace kb := Lib.hid (kb.out.keep hby)
      have zy : (Vb.alloc (.cells #[.int .i64 0, .int .i64 0, .int .i64 0, .int .i64 0, .int .i64 0, .int .i64 0] 25)).heap.size = Vb.heap.size + 1 := by simp
      replace HB := Lib.hid (HB.out.trans (hby.mono HB.out.size))
      have ky := Lib.hid (Lok.new Vb 25 #[.int .i64 0, .int .i64 0, .int .i64 0, .int .i64 0, .int .i64 0, .int .i64 0])
      clear hby
      generalize Vb.alloc (.cells #[.int .i64 0, .int .i64 0, .int .i64 0, .int .i64 0, .int .i64 0, .int .i64 0] 25) = Vy at *
      rw [zb] at ky
      clear za zb zy
      have a0 := ka.out.cell (i := 0) rfl
      have a1 := ka.out.cell (i := 1) rfl
      have a2 := ka.out.cell (i := 2) rfl
      have a3 := ka.out.cell (i := 3) rfl
      have a4 := ka.out.cell (i := 4) rfl
      have a5 := ka.out.cell (i := 5) rfl
      have b0 := kb.out.cell (i := 0) rfl
      have b1 := kb.out.cell (i := 1) rfl
      have b2 := kb.out.cell (i := 2) rfl
      have b3 := kb.out.cell (i := 3) rfl
      have b4 := kb.out.cell (i := 4) rfl
      have b5 := kb.out.cell (i := 5) rfl
      go_wp2_with fail
      clear a0 a1 a2 a3 a4 a5 b0 b1 b2 b3 b4 b5
      (((with_reducible refine (S1.out _).mono ?_); rintro e w1 ⟨rfl, hb1⟩); replace HB := Lib.hid (HB.out.trans (hb1.mono HB.out.size)); replace ka := Lib.hid (ka.out.keep hb1); replace kb := Lib.hid (kb.out.keep hb1); replace ky := Lib.hid (ky.out.keep hb1); clear hb1)
      have a0 := ka.out.cell (i := 0) rfl
      have a1 := ka.out.cell (i := 1) rfl
      have a2 := ka.out.cell (i := 2) rfl
      have a3 := ka.out.cell (i := 3) rfl
      have a4 := ka.out.cell (i := 4) rfl
      have a5 := ka.out.cell (i := 5) rfl
      have b0 := kb.out.cell (i := 0) rfl
      have b1 := kb.out.cell (i := 1) rfl
      have b2 := kb.out.cell (i := 2) rfl
      have b3 := kb.out.cell (i := 3) rfl
      have b4 := kb.out.cell (i := 4) rfl
      have b5 := kb.out.cell (i := 5) rfl
      go_wp2_with fail
      clear a0 a1 a2 a3 a4 a5 b0 b1 b2 b3 b4 b5
      (((with_reducible refine (S2.out _).mono ?_); rintro e w2 ⟨rfl, hb2⟩); replace HB := Lib.hid (HB.out.trans (hb2.mono HB.out.size)); replace ka := Lib.hid (ka.out.keep hb2); replace kb := Lib.hid (kb.out.keep hb2); replace ky := Lib.hid (ky.out.keep hb2); clear hb2)
      have a0 := ka.out.cell (i := 0) rfl
      have a1 := ka.out.cell (i := 1) rfl
      have a2 := ka.out.cell (i := 2) rfl
      have a3 := ka.out.cell (i := 3) rfl
      have a4 := ka.out.cell (i := 4) rfl
      have a5 := ka.out.cell (i := 5) rfl
      have b0 := kb.out.cell (i := 0) rfl
      have b1 := kb.out.cell (i := 1) rfl
      have b2 := kb.out.cell (i := 2) rfl
      have b3 := kb.out.cell (i := 3) rfl
      have b4 := kb.out.cell (i := 4) rfl
      have b5 := kb.out.cell (i := 5) rfl
      go_wp2_with fail
      clear a0 a1 a2 a3 a4 a5 b0 b1 b2 b3 b4 b5
      have hbr := below_new1 w2 (.cells #[.int .i64 l1, .int .i64 l2, .int .i64 l3, .int .i64 h1, .int .i64 h2, .int .i64 h3, .int .i64 m1, .int .i64 m2, .int .i64 m3, .int .i64 k1, .int .i64 k2, .int .i64 k3] 23)
      replace ka := Lib.hid (ka.out.keep hbr)
      replace kb := Lib.hid (kb.out.keep hbr)
      replace ky := Lib.hid (ky.out.keep hbr)
      have zr : (w2.alloc (.cells #[.int .i64 l1, .int .i64 l2, .int .i64 l3, .int .i64 h1, .int .i64 h2, .int .i64 h3, .int .i64 m1, .int .i64 m2, .int .i64 m3, .int .i64 k1, .int .i64 k2, .int .i64 k3] 23)).heap.size = w2.heap.size + 1 := by simp
      replace HB := Lib.hid (HB.out.trans (hbr.mono HB.out.size))
      have kr := Lib.hid (Lok.new w2 23 #[.int .i64 l1, .int .i64 l2, .int .i64 l3, .int .i64 h1, .int .i64 h2, .int .i64 h3, .int .i64 m1, .int .i64 m2, .int .i64 m3, .int .i64 k1, .int .i64 k2, .int .i64 k3])
      clear hbr
      generalize w2.alloc (.cells #[.int .i64 l1, .int .i64 l2, .int .i64 l3, .int .i64 h1, .int .i64 h2, .int .i64 h3, .int .i64 m1, .int .i64 m2, .int .i64 m3, .int .i64 k1, .int .i64 k2, .int .i64 k3] 23) = Vr at *
      clear zr
      generalize hgr : w2.heap.size = gr at *
      (((with_reducible refine (O.out _ _ _ kr.out).mono ?_); rintro e w3 ⟨rfl, hb3⟩); replace HB := Lib.hid (HB.out.trans (hb3.mono HB.out.size)); replace ky := Lib.hid (ky.out.keep hb3); clear hb3)
      clear kr S1 S2 O ka kb hgr
      have y0 := ky.out.cell (i := 0) rfl
      have y1 := ky.out.cell (i := 1) rfl
      have y2 := ky.out.cell (i := 2) rfl
      have y3 := ky.out.cell (i := 3) rfl
      have y4 := ky.out.cell (i := 4) rfl
      have y5 := ky.out.cell (i := 5) rfl
      have fy0 := ky.out.frozen 0
      have fy1 := ky.out.frozen 1
      have fy2 := ky.out.frozen 2
      have fy3 := ky.out.frozen 3
      have fy4 := ky.out.frozen 4
      have fy5 := ky.out.frozen 5
      go_wp2_with fail
      exact bodyPost_ret (v := .tuple #[.agg #[.int .i64 u0, .int .i64 u1, .int .i64 u2, .int .i64 v0, .int .i64 v1, .int .i64 v2], .int .i64 0]) (by simp [results, Try.results10, go_sem, y0, y1, y2, y3, y4, y5]) rfl ⟨rfl, (((((HB.out.setCell (by simp <;> omega) _).setCell (by simp <;> omega) _).setCell (by simp <;> omega) _).setCell (by simp <;> omega) _).setCell (by simp <;> omega) _).setCell (by simp <;> omega) _⟩
end Go.Proofs.Ytfghjfgdjlkooaa
