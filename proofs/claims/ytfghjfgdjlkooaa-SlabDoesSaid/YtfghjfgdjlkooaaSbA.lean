/-
  Contracts of package slab: parts, point, rising. (gen/SbA.py)
-/
import Derived.Test.YtfghjfgdjlkooaaSbPl
import Derived.Test.YtfghjfgdjlkooaaVcC
import Derived.Test.YtfghjfgdjlkooaaVcE
import Derived.Test.YtfghjfgdjlkooaaSgA
namespace Go.Proofs.Ytfghjfgdjlkooaa
open Go.RowKit

set_option maxRecDepth 100000 in
set_option maxHeartbeats 4000000 in
theorem slparts_any (x y z : Int) (w : World) :
    Calls Try.prog 23 #[.agg #[.int .i64 x, .int .i64 y, .int .i64 z]] w fun e' w' => e' = .returned (.agg #[.int .i64 x, .int .i64 y, .int .i64 z]) ∧ Below w.heap.size w w' := by
  have HB := Lib.hid (Below.refl w.heap.size w)
  go_enter Try.func23, Try.ntmps23
  go_upto_region 1 with fail
  have hbx := below_new1 w (.cells #[.int .i64 x, .int .i64 y, .int .i64 z] 23)
  have zx : (w.alloc (.cells #[.int .i64 x, .int .i64 y, .int .i64 z] 23)).heap.size = w.heap.size + 1 := by simp
  have HB := Lib.hid hbx
  have kx := Lib.hid (Lok.new w 23 #[.int .i64 x, .int .i64 y, .int .i64 z])
  clear hbx
  generalize w.alloc (.cells #[.int .i64 x, .int .i64 y, .int .i64 z] 23) = Vx at *
  have hby := below_new1 Vx (.cells #[.int .i64 0, .int .i64 0, .int .i64 0] 47)
  replace kx := Lib.hid (kx.out.keep hby)
  have zy : (Vx.alloc (.cells #[.int .i64 0, .int .i64 0, .int .i64 0] 47)).heap.size = Vx.heap.size + 1 := by simp
  replace HB := Lib.hid (HB.out.trans (hby.mono HB.out.size))
  have ky := Lib.hid (Lok.new Vx 47 #[.int .i64 0, .int .i64 0, .int .i64 0])
  clear hby
  generalize Vx.alloc (.cells #[.int .i64 0, .int .i64 0, .int .i64 0] 47) = Vy at *
  rw [zx] at ky
  clear zx zy
  have x0 := kx.out.cell (i := 0) rfl
  have x1 := kx.out.cell (i := 1) rfl
  have x2 := kx.out.cell (i := 2) rfl
  have y0 := ky.out.cell (i := 0) rfl
  have y1 := ky.out.cell (i := 1) rfl
  have y2 := ky.out.cell (i := 2) rfl
  have fy0 := ky.out.frozen 0
  have fy1 := ky.out.frozen 1
  have fy2 := ky.out.frozen 2
  go_wp2_with fail
  exact bodyPost_ret (v := .agg #[.int .i64 x, .int .i64 y, .int .i64 z]) (by simp [results, Try.results23, go_sem, y0, y1, y2]) rfl ⟨rfl, ((HB.out.setCell (by simp <;> omega) _).setCell (by simp <;> omega) _).setCell (by simp <;> omega) _⟩
set_option maxRecDepth 100000 in
set_option maxHeartbeats 4000000 in
theorem slpoint_any (x y z : Int) (w : World) :
    Calls Try.prog 24 #[.agg #[.int .i64 x, .int .i64 y, .int .i64 z]] w fun e' w' => e' = .returned (.agg #[.int .i64 x, .int .i64 y, .int .i64 z]) ∧ Below w.heap.size w w' := by
  have HB := Lib.hid (Below.refl w.heap.size w)
  go_enter Try.func24, Try.ntmps24
  go_upto_region 1 with fail
  have hbx := below_new1 w (.cells #[.int .i64 x, .int .i64 y, .int .i64 z] 47)
  have zx : (w.alloc (.cells #[.int .i64 x, .int .i64 y, .int .i64 z] 47)).heap.size = w.heap.size + 1 := by simp
  have HB := Lib.hid hbx
  have kx := Lib.hid (Lok.new w 47 #[.int .i64 x, .int .i64 y, .int .i64 z])
  clear hbx
  generalize w.alloc (.cells #[.int .i64 x, .int .i64 y, .int .i64 z] 47) = Vx at *
  have hby := below_new1 Vx (.cells #[.int .i64 0, .int .i64 0, .int .i64 0] 23)
  replace kx := Lib.hid (kx.out.keep hby)
  have zy : (Vx.alloc (.cells #[.int .i64 0, .int .i64 0, .int .i64 0] 23)).heap.size = Vx.heap.size + 1 := by simp
  replace HB := Lib.hid (HB.out.trans (hby.mono HB.out.size))
  have ky := Lib.hid (Lok.new Vx 23 #[.int .i64 0, .int .i64 0, .int .i64 0])
  clear hby
  generalize Vx.alloc (.cells #[.int .i64 0, .int .i64 0, .int .i64 0] 23) = Vy at *
  rw [zx] at ky
  clear zx zy
  have x0 := kx.out.cell (i := 0) rfl
  have x1 := kx.out.cell (i := 1) rfl
  have x2 := kx.out.cell (i := 2) rfl
  have y0 := ky.out.cell (i := 0) rfl
  have y1 := ky.out.cell (i := 1) rfl
  have y2 := ky.out.cell (i := 2) rfl
  have fy0 := ky.out.frozen 0
  have fy1 := ky.out.frozen 1
  have fy2 := ky.out.frozen 2
  go_wp2_with fail
  exact bodyPost_ret (v := .agg #[.int .i64 x, .int .i64 y, .int .i64 z]) (by simp [results, Try.results24, go_sem, y0, y1, y2]) rfl ⟨rfl, ((HB.out.setCell (by simp <;> omega) _).setCell (by simp <;> omega) _).setCell (by simp <;> omega) _⟩
/-- No part of one is above that of the next one. -/
def lsB (F : Nat → Nat → Int) (i : Nat) : Bool := le3 (F i 0) (F i 1) (F i 2) (F (i + 1) 0) (F (i + 1) 1) (F (i + 1) 2)
def rsB (F : Nat → Nat → Int) (n : Nat) : Bool := allB (lsB F) (n - 1)
theorem le3_pt {x1 x2 x3 y1 y2 y3 : Int} (h : ∀ i, i < 3 → pt x1 x2 x3 i ≤ pt y1 y2 y3 i) : le3 x1 x2 x3 y1 y2 y3 = true := le3_iff.2 ⟨h 0 (by omega), h 1 (by omega), h 2 (by omega)⟩
theorem le3_no {x1 x2 x3 y1 y2 y3 : Int} {i : Nat} (hi : i < 3) (h : pt y1 y2 y3 i < pt x1 x2 x3 i) : le3 x1 x2 x3 y1 y2 y3 = false := by
  cases e : le3 x1 x2 x3 y1 y2 y3 with
  | false => rfl
  | true =>
    obtain ⟨p, q, r⟩ := le3_iff.1 e
    rcases show i = 0 ∨ i = 1 ∨ i = 2 by omega with rfl | rfl | rfl
    · exact absurd h (by show ¬ y1 < x1; omega)
    · exact absurd h (by show ¬ y2 < x2; omega)
    · exact absurd h (by show ¬ y3 < x3; omega)
set_option maxRecDepth 100000 in
set_option maxHeartbeats 8000000 in
theorem rising_any (A : Option Addr) (n c : Nat) (F : Nat → Nat → Int) (w : World) (hr : RowK w A n 3 F) (hn : n ≤ 9223372036854775806) :
    Calls Try.prog 26 #[.slice A n c] w fun e w' => e = .returned (.bool (rsB F n)) ∧ Below w.heap.size w w' := by
  have R := Lib.hid hr
  clear hr
  have PC := Lib.hid (fun x y z W => slparts_any x y z W)
  go_enter Try.func26, Try.ntmps26
  go_wp2_with fail
  go_loopw [3] (fun x wr => ∃ k : Nat, x = .int .i64 k ∧ 1 ≤ k ∧ (k ≤ n ∨ k = 1) ∧ (∀ j, j + 1 < k → lsB F j = true) ∧ Below w.heap.size w wr) (fun x _ => n - (intOf x).toNat)
  case atStart => exact ⟨1, rfl, Nat.le_refl _, .inr rfl, fun j h => absurd h (by omega), by (repeat (first | exact Below.refl _ _ | assumption | refine Below.drew ?_ | refine below_drewN ?_ _ | refine Below.setCell ?_ (by first | omega | (simp; done) | (simp; omega)) _ | refine Below.alloc ?_ (by first | omega | (simp; done) | (simp; omega)) _))⟩
  case round =>
    obtain ⟨k, rfl, h1, hk, hR, hB⟩ := hrel
    have HB := Lib.hid hB
    have HR := Lib.hid hR
    clear hB hR
    by_cases hlt : k < n
    · obtain ⟨b, o, rfl, hb, hc⟩ := (R.out.keep HB.out).at hlt
      obtain ⟨j, hj⟩ : ∃ j, k = j + 1 := ⟨k - 1, by omega⟩
      have a0 := hc j (by omega) 0 (by omega)
      have a1 := hc j (by omega) 1 (by omega)
      have a2 := hc j (by omega) 2 (by omega)
      have b0 := hc k hlt 0 (by omega)
      have b1 := hc k hlt 1 (by omega)
      have b2 := hc k hlt 2 (by omega)
      rw [Nat.add_zero] at a0 b0
      rw [← Nat.add_assoc] at a1 a2 b1 b2
      have no : lsB F j = false → rsB F n = false := allB_no (P := lsB F) (show j < n - 1 by omega)
      have yes : lsB F j = true → ∀ i, i + 1 < k + 1 → lsB F i = true := fun q i hi => by
        by_cases e : i = j
        · rw [e]; exact q
        · exact HR.out i (by omega)
      unfold lsB at no
      rw [show lsB F j = le3 (F j 0) (F j 1) (F j 2) (F (j + 1) 0) (F (j + 1) 1) (F (j + 1) 2) from rfl] at yes
      rw [← hj] at no yes
      generalize F j 0 = x1 at *
      generalize F j 1 = x2 at *
      generalize F j 2 = x3 at *
      generalize F k 0 = y1 at *
      generalize F k 1 = y2 at *
      generalize F k 2 = y3 at *
      have NO := Lib.hid no
      have YES := Lib.hid yes
      clear no yes hc hk
      have i0 : (0 : Int) ≤ (k : Int) := by omega
      have i1 : (k : Int) < (n : Int) := by omega
      have i2 : ((k : Int)).toNat = k := by omega
      have j0 : (0 : Int) ≤ (j : Int) := by omega
      have j1 : (j : Int) < (n : Int) := by omega
      have j2 : ((j : Int)).toNat = j := by omega
      have jw : IntKind.i64.wrap ((k : Int) - 1) = (j : Int) := by rw [show (k : Int) - 1 = (j : Int) from by omega]; exact IntWalk.i64_in _ (by omega)
      have hj' := Lib.hid hj
      clear hj h1
      go_upto_region 4 with fail
      refine wp_region_rel (by kernel_rfl) [13, 14, 15, 16, 17, 18, 19, 20, 21, 22, 23, 4, 5] ?Fr1 ?hFr1
        (fun L u W => Below wr.heap.size wr W ∧ (L 0 = true → u 13 = .slice (some ⟨b, o, none⟩) n c) ∧ (L 1 = true → u 14 = .int .i64 k) ∧ (L 2 = true → u 15 = .int .i64 j) ∧ (L 3 = true → u 16 = .pointer (some ⟨b, o + j * 3, none⟩)) ∧ (L 4 = true → u 17 = .agg #[.int .i64 x1, .int .i64 x2, .int .i64 x3]) ∧ (L 5 = true → u 18 = .agg #[.int .i64 x1, .int .i64 x2, .int .i64 x3]) ∧ (L 6 = true → u 19 = .slice (some ⟨b, o, none⟩) n c) ∧ (L 7 = true → u 20 = .int .i64 k) ∧ (L 8 = true → u 21 = .pointer (some ⟨b, o + k * 3, none⟩)) ∧ (L 9 = true → u 22 = .agg #[.int .i64 y1, .int .i64 y2, .int .i64 y3]) ∧ (L 10 = true → u 23 = .agg #[.int .i64 y1, .int .i64 y2, .int .i64 y3]) ∧ (L 11 = true → ∃ (g : Nat) (x11_0 x11_1 x11_2 : Value), u 4 = .pointer (some ⟨g, 0, none⟩) ∧ wr.heap.size ≤ g ∧ Lok W g 47 #[x11_0, x11_1, x11_2] ∧ (L 13 = true → x11_0 = .int .i64 x1 ∧ x11_1 = .int .i64 x2 ∧ x11_2 = .int .i64 x3)) ∧ (L 13 = true → L 11 = true) ∧ (L 12 = true → ∃ (g : Nat) (x12_0 x12_1 x12_2 : Value), u 5 = .pointer (some ⟨g, 0, none⟩) ∧ wr.heap.size ≤ g ∧ Lok W g 47 #[x12_0, x12_1, x12_2] ∧ (L 14 = true → x12_0 = .int .i64 y1 ∧ x12_1 = .int .i64 y2 ∧ x12_2 = .int .i64 y3)) ∧ (L 14 = true → L 12 = true) ∧ (L 11 = true → L 12 = true → u 4 ≠ u 5)) (by kernel_rfl) (by kernel_rfl) 15 rfl ?h0r1 ?stepr1 ?finr1
      case hFr1 => intro u; simp only [putAll, Act.put, List.setIfInBounds_toArray, List.set]; exact rfl
      case h0r1 => intro L u hL; exact ⟨(Below.refl _ _).drew, (fun h => by simp [hL] at h), (fun h => by simp [hL] at h), (fun h => by simp [hL] at h), (fun h => by simp [hL] at h), (fun h => by simp [hL] at h), (fun h => by simp [hL] at h), (fun h => by simp [hL] at h), (fun h => by simp [hL] at h), (fun h => by simp [hL] at h), (fun h => by simp [hL] at h), (fun h => by simp [hL] at h), (fun h => by simp [hL] at h), (fun h => by simp [hL] at h), (fun h => by simp [hL] at h), (fun h => by simp [hL] at h), (fun h => by simp [hL] at h)⟩
      case stepr1 =>
        refine ops_all (ops_cons ?s0r1 (ops_cons ?s1r1 (ops_cons ?s2r1 (ops_cons ?s3r1 (ops_cons ?s4r1 (ops_cons ?s5r1 (ops_cons ?s6r1 (ops_cons ?s7r1 (ops_cons ?s8r1 (ops_cons ?s9r1 (ops_cons ?s10r1 (ops_cons ?s11r1 (ops_cons ?s12r1 (ops_cons ?s13r1 (ops_cons ?s14r1 (ops_nil))))))))))))))))
        case s0r1 =>
          rintro L u W ⟨hB, c0, c1, c2, c3, c4, c5, c6, c7, c8, c9, c10, c11, d13, c12, d14, y11_12⟩ hf hd K hK
          dsimp only at hK
          clear hd
          go_simp
          refine hK _ _ ?_ (fun h => by cases h)
          intro s hs
          cases hs
          exact ⟨hB, (fun _ => rfl), c1, c2, c3, c4, c5, c6, c7, c8, c9, c10, c11, d13, c12, d14, y11_12⟩
        case s1r1 =>
          rintro L u W ⟨hB, c0, c1, c2, c3, c4, c5, c6, c7, c8, c9, c10, c11, d13, c12, d14, y11_12⟩ hf hd K hK
          dsimp only at hK
          clear hd
          go_simp
          refine hK _ _ ?_ (fun h => by cases h)
          intro s hs
          cases hs
          exact ⟨hB, c0, (fun _ => rfl), c2, c3, c4, c5, c6, c7, c8, c9, c10, c11, d13, c12, d14, y11_12⟩
        case s2r1 =>
          rintro L u W ⟨hB, c0, c1, c2, c3, c4, c5, c6, c7, c8, c9, c10, c11, d13, c12, d14, y11_12⟩ hf hd K hK
          dsimp only at hK
          have hd1 : L 1 = true := (by first | (refine hd ⟨1, .data⟩ ?_ rfl; simp; done) | (refine hd ⟨1, .guard⟩ ?_ rfl; simp; done) | (refine hd ⟨1, .phase⟩ ?_ rfl; simp; done) | (refine hd ⟨1, .chain⟩ ?_ rfl; simp; done))
          have e1 := c1 hd1
          rw [e1] at hK
          clear hd1
          clear hd
          go_simp
          refine hK _ _ ?_ (fun h => by cases h)
          intro s hs
          cases hs
          exact ⟨hB, c0, c1, (fun _ => rfl), c3, c4, c5, c6, c7, c8, c9, c10, c11, d13, c12, d14, y11_12⟩
        case s3r1 =>
          rintro L u W ⟨hB, c0, c1, c2, c3, c4, c5, c6, c7, c8, c9, c10, c11, d13, c12, d14, y11_12⟩ hf hd K hK
          dsimp only at hK
          have hd0 : L 0 = true := (by first | (refine hd ⟨0, .data⟩ ?_ rfl; simp; done) | (refine hd ⟨0, .guard⟩ ?_ rfl; simp; done) | (refine hd ⟨0, .phase⟩ ?_ rfl; simp; done) | (refine hd ⟨0, .chain⟩ ?_ rfl; simp; done))
          have hd2 : L 2 = true := (by first | (refine hd ⟨2, .data⟩ ?_ rfl; simp; done) | (refine hd ⟨2, .guard⟩ ?_ rfl; simp; done) | (refine hd ⟨2, .phase⟩ ?_ rfl; simp; done) | (refine hd ⟨2, .chain⟩ ?_ rfl; simp; done))
          have e0 := c0 hd0
          rw [e0] at hK
          have e2 := c2 hd2
          rw [e2] at hK
          clear hd0
          clear hd2
          clear hd
          go_simp
          refine hK _ _ ?_ (fun h => by cases h)
          intro s hs
          cases hs
          exact ⟨hB, c0, c1, c2, (fun _ => rfl), c4, c5, c6, c7, c8, c9, c10, c11, d13, c12, d14, y11_12⟩
        case s4r1 =>
          rintro L u W ⟨hB, c0, c1, c2, c3, c4, c5, c6, c7, c8, c9, c10, c11, d13, c12, d14, y11_12⟩ hf hd K hK
          dsimp only at hK
          have hd3 : L 3 = true := (by first | (refine hd ⟨3, .data⟩ ?_ rfl; simp; done) | (refine hd ⟨3, .guard⟩ ?_ rfl; simp; done) | (refine hd ⟨3, .phase⟩ ?_ rfl; simp; done) | (refine hd ⟨3, .chain⟩ ?_ rfl; simp; done))
          have e3 := c3 hd3
          rw [e3] at hK
          have t0 := keepc hB a0
          have t1 := keepc hB a1
          have t2 := keepc hB a2
          clear hd3
          clear hd
          go_simp
          refine hK _ _ ?_ (fun h => by cases h)
          intro s hs
          cases hs
          exact ⟨hB, c0, c1, c2, c3, (fun _ => rfl), c5, c6, c7, c8, c9, c10, c11, d13, c12, d14, y11_12⟩
        case s5r1 =>
          rintro L u W ⟨hB, c0, c1, c2, c3, c4, c5, c6, c7, c8, c9, c10, c11, d13, c12, d14, y11_12⟩ hf hd K hK
          dsimp only at hK
          have hd4 : L 4 = true := (by first | (refine hd ⟨4, .data⟩ ?_ rfl; simp; done) | (refine hd ⟨4, .guard⟩ ?_ rfl; simp; done) | (refine hd ⟨4, .phase⟩ ?_ rfl; simp; done) | (refine hd ⟨4, .chain⟩ ?_ rfl; simp; done))
          have e4 := c4 hd4
          rw [e4] at hK
          clear hd4
          clear hd
          go_simp
          go_wp2_with (go_at_call 23; ((with_reducible refine (PC.out _ _ _ _).mono ?_); rintro e w5 ⟨rfl, hb⟩))
          refine hK _ _ ?_ (fun h => by cases h)
          intro s hs
          cases hs
          exact ⟨hB.trans (hb.mono hB.size), c0, c1, c2, c3, c4, (fun _ => rfl), c6, c7, c8, c9, c10, (fun h => by obtain ⟨g, x11_0, x11_1, x11_2, k1, k2, k3, k4⟩ := c11 h; exact ⟨g, x11_0, x11_1, x11_2, k1, k2, k3.keep hb, k4⟩), d13, (fun h => by obtain ⟨g, x12_0, x12_1, x12_2, k1, k2, k3, k4⟩ := c12 h; exact ⟨g, x12_0, x12_1, x12_2, k1, k2, k3.keep hb, k4⟩), d14, y11_12⟩
        case s6r1 =>
          rintro L u W ⟨hB, c0, c1, c2, c3, c4, c5, c6, c7, c8, c9, c10, c11, d13, c12, d14, y11_12⟩ hf hd K hK
          dsimp only at hK
          clear hd
          go_simp
          refine hK _ _ ?_ (fun h => by cases h)
          intro s hs
          cases hs
          exact ⟨hB, c0, c1, c2, c3, c4, c5, (fun _ => rfl), c7, c8, c9, c10, c11, d13, c12, d14, y11_12⟩
        case s7r1 =>
          rintro L u W ⟨hB, c0, c1, c2, c3, c4, c5, c6, c7, c8, c9, c10, c11, d13, c12, d14, y11_12⟩ hf hd K hK
          dsimp only at hK
          clear hd
          go_simp
          refine hK _ _ ?_ (fun h => by cases h)
          intro s hs
          cases hs
          exact ⟨hB, c0, c1, c2, c3, c4, c5, c6, (fun _ => rfl), c8, c9, c10, c11, d13, c12, d14, y11_12⟩
        case s8r1 =>
          rintro L u W ⟨hB, c0, c1, c2, c3, c4, c5, c6, c7, c8, c9, c10, c11, d13, c12, d14, y11_12⟩ hf hd K hK
          dsimp only at hK
          have hd6 : L 6 = true := (by first | (refine hd ⟨6, .data⟩ ?_ rfl; simp; done) | (refine hd ⟨6, .guard⟩ ?_ rfl; simp; done) | (refine hd ⟨6, .phase⟩ ?_ rfl; simp; done) | (refine hd ⟨6, .chain⟩ ?_ rfl; simp; done))
          have hd7 : L 7 = true := (by first | (refine hd ⟨7, .data⟩ ?_ rfl; simp; done) | (refine hd ⟨7, .guard⟩ ?_ rfl; simp; done) | (refine hd ⟨7, .phase⟩ ?_ rfl; simp; done) | (refine hd ⟨7, .chain⟩ ?_ rfl; simp; done))
          have e6 := c6 hd6
          rw [e6] at hK
          have e7 := c7 hd7
          rw [e7] at hK
          clear hd6
          clear hd7
          clear hd
          go_simp
          refine hK _ _ ?_ (fun h => by cases h)
          intro s hs
          cases hs
          exact ⟨hB, c0, c1, c2, c3, c4, c5, c6, c7, (fun _ => rfl), c9, c10, c11, d13, c12, d14, y11_12⟩
        case s9r1 =>
          rintro L u W ⟨hB, c0, c1, c2, c3, c4, c5, c6, c7, c8, c9, c10, c11, d13, c12, d14, y11_12⟩ hf hd K hK
          dsimp only at hK
          have hd8 : L 8 = true := (by first | (refine hd ⟨8, .data⟩ ?_ rfl; simp; done) | (refine hd ⟨8, .guard⟩ ?_ rfl; simp; done) | (refine hd ⟨8, .phase⟩ ?_ rfl; simp; done) | (refine hd ⟨8, .chain⟩ ?_ rfl; simp; done))
          have e8 := c8 hd8
          rw [e8] at hK
          have t0 := keepc hB b0
          have t1 := keepc hB b1
          have t2 := keepc hB b2
          clear hd8
          clear hd
          go_simp
          refine hK _ _ ?_ (fun h => by cases h)
          intro s hs
          cases hs
          exact ⟨hB, c0, c1, c2, c3, c4, c5, c6, c7, c8, (fun _ => rfl), c10, c11, d13, c12, d14, y11_12⟩
        case s10r1 =>
          rintro L u W ⟨hB, c0, c1, c2, c3, c4, c5, c6, c7, c8, c9, c10, c11, d13, c12, d14, y11_12⟩ hf hd K hK
          dsimp only at hK
          have hd9 : L 9 = true := (by first | (refine hd ⟨9, .data⟩ ?_ rfl; simp; done) | (refine hd ⟨9, .guard⟩ ?_ rfl; simp; done) | (refine hd ⟨9, .phase⟩ ?_ rfl; simp; done) | (refine hd ⟨9, .chain⟩ ?_ rfl; simp; done))
          have e9 := c9 hd9
          rw [e9] at hK
          clear hd9
          clear hd
          go_simp
          go_wp2_with (go_at_call 23; ((with_reducible refine (PC.out _ _ _ _).mono ?_); rintro e w5 ⟨rfl, hb⟩))
          refine hK _ _ ?_ (fun h => by cases h)
          intro s hs
          cases hs
          exact ⟨hB.trans (hb.mono hB.size), c0, c1, c2, c3, c4, c5, c6, c7, c8, c9, (fun _ => rfl), (fun h => by obtain ⟨g, x11_0, x11_1, x11_2, k1, k2, k3, k4⟩ := c11 h; exact ⟨g, x11_0, x11_1, x11_2, k1, k2, k3.keep hb, k4⟩), d13, (fun h => by obtain ⟨g, x12_0, x12_1, x12_2, k1, k2, k3, k4⟩ := c12 h; exact ⟨g, x12_0, x12_1, x12_2, k1, k2, k3.keep hb, k4⟩), d14, y11_12⟩
        case s11r1 =>
          rintro L u W ⟨hB, c0, c1, c2, c3, c4, c5, c6, c7, c8, c9, c10, c11, d13, c12, d14, y11_12⟩ hf hd K hK
          dsimp only at hK
          go_simp
          have hb : Below W.heap.size W (W.alloc (.cells #[.int .i64 0, .int .i64 0, .int .i64 0] 47)) := (Below.refl _ W).alloc (Nat.le_refl _) _
          refine hK _ _ ?_ (fun h => by cases h)
          intro s hs
          cases hs
          exact ⟨hB.trans (hb.mono hB.size), c0, c1, c2, c3, c4, c5, c6, c7, c8, c9, c10, (fun _ => ⟨_, _, _, _, rfl, hB.size, Lok.new _ _ _, fun h => absurd (d13 h) (by rw [hf]; decide)⟩), (fun _ => rfl), (fun h => by obtain ⟨g, x12_0, x12_1, x12_2, k1, k2, k3, k4⟩ := c12 h; exact ⟨g, x12_0, x12_1, x12_2, k1, k2, k3.keep hb, k4⟩), d14, (fun _ h => by obtain ⟨g, x12_0, x12_1, x12_2, k1, k2, k3, k4⟩ := c12 h; exact ptr_new k1 k3)⟩
        case s12r1 =>
          rintro L u W ⟨hB, c0, c1, c2, c3, c4, c5, c6, c7, c8, c9, c10, c11, d13, c12, d14, y11_12⟩ hf hd K hK
          dsimp only at hK
          go_simp
          have hb : Below W.heap.size W (W.alloc (.cells #[.int .i64 0, .int .i64 0, .int .i64 0] 47)) := (Below.refl _ W).alloc (Nat.le_refl _) _
          refine hK _ _ ?_ (fun h => by cases h)
          intro s hs
          cases hs
          exact ⟨hB.trans (hb.mono hB.size), c0, c1, c2, c3, c4, c5, c6, c7, c8, c9, c10, (fun h => by obtain ⟨g, x11_0, x11_1, x11_2, k1, k2, k3, k4⟩ := c11 h; exact ⟨g, x11_0, x11_1, x11_2, k1, k2, k3.keep hb, k4⟩), d13, (fun _ => ⟨_, _, _, _, rfl, hB.size, Lok.new _ _ _, fun h => absurd (d14 h) (by rw [hf]; decide)⟩), (fun _ => rfl), (fun h _ => by obtain ⟨g, x11_0, x11_1, x11_2, k1, k2, k3, k4⟩ := c11 h; exact ptr_new2 k1 k3)⟩
        case s13r1 =>
          rintro L u W ⟨hB, c0, c1, c2, c3, c4, c5, c6, c7, c8, c9, c10, c11, d13, c12, d14, y11_12⟩ hf hd K hK
          dsimp only at hK
          have hd11 : L 11 = true := hd ⟨11, .data⟩ (by simp) rfl
          have hd5 : L 5 = true := (by first | (refine hd ⟨5, .data⟩ ?_ rfl; simp; done) | (refine hd ⟨5, .guard⟩ ?_ rfl; simp; done) | (refine hd ⟨5, .phase⟩ ?_ rfl; simp; done) | (refine hd ⟨5, .chain⟩ ?_ rfl; simp; done))
          obtain ⟨g, x11_0, x11_1, x11_2, e11, k2, k3, k4⟩ := c11 hd11
          rw [e11] at hK
          have e5 := c5 hd5
          rw [e5] at hK
          have t0 := k3.cell (i := 0) rfl
          have f0 := k3.frozen 0
          have t1 := k3.cell (i := 1) rfl
          have f1 := k3.frozen 1
          have t2 := k3.cell (i := 2) rfl
          have f2 := k3.frozen 2
          have HH := Lib.hid (And.intro trivial trivial)
          clear hd
          have hd11' := Lib.hid hd11
          clear hd11
          have hd5' := Lib.hid hd5
          clear hd5
          go_simp
          have hd11 := hd11'.out
          have hd5 := hd5'.out
          have hlok := ((k3.set (i := 0) (v := .int .i64 x1)).set (i := 1) (v := .int .i64 x2)).set (i := 2) (v := .int .i64 x3)
          refine hK undef _ (fun s h => by cases h) (fun _ => ?_)
          exact ⟨((hB.setCell k2 _).setCell k2 _).setCell k2 _, c0, c1, c2, c3, c4, (fun _ => rfl), c6, c7, c8, c9, c10, (fun _ => ⟨g, _, _, _, rfl, k2, hlok, fun _ => ⟨rfl, rfl, rfl⟩⟩), (fun _ => hd11), (fun h => by obtain ⟨g2, x12_0, x12_1, x12_2, m1, m2, m3, m4⟩ := c12 h; have hne := ptr_apart (y11_12 hd11 h) e11 m1; exact ⟨g2, x12_0, x12_1, x12_2, m1, m2, ((m3.far hne).far hne).far hne, m4⟩), d14, (fun h1 h2 => by first | exact y11_12 h1 h2 | (rw [← e11]; exact y11_12 h1 h2))⟩
        case s14r1 =>
          rintro L u W ⟨hB, c0, c1, c2, c3, c4, c5, c6, c7, c8, c9, c10, c11, d13, c12, d14, y11_12⟩ hf hd K hK
          dsimp only at hK
          have hd12 : L 12 = true := hd ⟨12, .data⟩ (by simp) rfl
          have hd10 : L 10 = true := (by first | (refine hd ⟨10, .data⟩ ?_ rfl; simp; done) | (refine hd ⟨10, .guard⟩ ?_ rfl; simp; done) | (refine hd ⟨10, .phase⟩ ?_ rfl; simp; done) | (refine hd ⟨10, .chain⟩ ?_ rfl; simp; done))
          obtain ⟨g, x12_0, x12_1, x12_2, e12, k2, k3, k4⟩ := c12 hd12
          rw [e12] at hK
          have e10 := c10 hd10
          rw [e10] at hK
          have t0 := k3.cell (i := 0) rfl
          have f0 := k3.frozen 0
          have t1 := k3.cell (i := 1) rfl
          have f1 := k3.frozen 1
          have t2 := k3.cell (i := 2) rfl
          have f2 := k3.frozen 2
          have HH := Lib.hid (And.intro trivial trivial)
          clear hd
          have hd12' := Lib.hid hd12
          clear hd12
          have hd10' := Lib.hid hd10
          clear hd10
          go_simp
          have hd12 := hd12'.out
          have hd10 := hd10'.out
          have hlok := ((k3.set (i := 0) (v := .int .i64 y1)).set (i := 1) (v := .int .i64 y2)).set (i := 2) (v := .int .i64 y3)
          refine hK undef _ (fun s h => by cases h) (fun _ => ?_)
          exact ⟨((hB.setCell k2 _).setCell k2 _).setCell k2 _, c0, c1, c2, c3, c4, c5, c6, c7, c8, c9, (fun _ => rfl), (fun h => by obtain ⟨g2, x11_0, x11_1, x11_2, m1, m2, m3, m4⟩ := c11 h; have hne := ptr_apart2 (y11_12 h hd12) m1 e12; exact ⟨g2, x11_0, x11_1, x11_2, m1, m2, ((m3.far hne).far hne).far hne, m4⟩), d13, (fun _ => ⟨g, _, _, _, rfl, k2, hlok, fun _ => ⟨rfl, rfl, rfl⟩⟩), (fun _ => hd12), (fun h1 h2 => by first | exact y11_12 h1 h2 | (rw [← e12]; exact y11_12 h1 h2))⟩
      case finr1 =>
        rintro L u W hL ⟨hB, c0, c1, c2, c3, c4, c5, c6, c7, c8, c9, c10, c11, d13, c12, d14, y11_12⟩
        have e0 := c0 (hL 0 (by decide))
        have e1 := c1 (hL 1 (by decide))
        have e2 := c2 (hL 2 (by decide))
        have e3 := c3 (hL 3 (by decide))
        have e4 := c4 (hL 4 (by decide))
        have e5 := c5 (hL 5 (by decide))
        have e6 := c6 (hL 6 (by decide))
        have e7 := c7 (hL 7 (by decide))
        have e8 := c8 (hL 8 (by decide))
        have e9 := c9 (hL 9 (by decide))
        have e10 := c10 (hL 10 (by decide))
        obtain ⟨g11, x11_0, x11_1, x11_2, e11, hg11, hlok11, hst11⟩ := c11 (hL 11 (by decide))
        obtain ⟨rfl, rfl, rfl⟩ := hst11 (hL 13 (by decide))
        clear hst11
        obtain ⟨g12, x12_0, x12_1, x12_2, e12, hg12, hlok12, hst12⟩ := c12 (hL 12 (by decide))
        obtain ⟨rfl, rfl, rfl⟩ := hst12 (hL 14 (by decide))
        clear hst12
        clear hL c0 c1 c2 c3 c4 c5 c6 c7 c8 c9 c10 c11 d13 c12 d14 y11_12
        try simp only [e0, e1, e2, e3, e4, e5, e6, e7, e8, e9, e10, e11, e12]
        clear e0 e1 e2 e3 e4 e5 e6 e7 e8 e9 e10 e11 e12
        replace HB := Lib.hid (HB.out.trans (hB.mono HB.out.size))
        have K4 := Lib.hid hlok11
        have K5 := Lib.hid hlok12
        clear hB hlok11 hlok12 a0 a1 a2 b0 b1 b2 j0 j1 j2 jw i0 i1 i2
        go_wp2_with fail
        go_loopw [24] (fun y wi => ∃ m : Nat, y = .int .i64 m ∧ m ≤ 3 ∧ (∀ i, i < m → pt x1 x2 x3 i ≤ pt y1 y2 y3 i) ∧ Below W.heap.size W wi) (fun y _ => 3 - (intOf y).toNat)
        case atStart => exact ⟨0, rfl, Nat.zero_le _, fun j h => absurd h (by omega), Below.refl _ _⟩
        case round =>
          obtain ⟨m, rfl, hm, hS, hBi⟩ := hrel
          have B := Lib.hid hBi
          have HS := Lib.hid hS
          clear hBi hS
          by_cases hl3 : m < 3
          · have c0 := (K4.out.keep B.out).cell (pt_at x1 x2 x3 hl3)
            have c1 := (K5.out.keep B.out).cell (pt_at y1 y2 y3 hl3)
            have LE : Hid (¬ pt y1 y2 y3 m < pt x1 x2 x3 m → ∀ i, i < m + 1 → pt x1 x2 x3 i ≤ pt y1 y2 y3 i) := Lib.hid (fun q i hi => by
              by_cases e : i = m
              · rw [e]; omega
              · exact HS.out i (by omega))
            have LN : Hid (pt y1 y2 y3 m < pt x1 x2 x3 m → rsB F n = false) := Lib.hid (fun q => NO.out (le3_no hl3 q))
            clear HS NO
            generalize hxx : pt x1 x2 x3 m = xx at *
            generalize hyy : pt y1 y2 y3 m = yy at *
            clear hxx hyy
            have i0 : (0 : Int) ≤ (m : Int) := by omega
            have i1 : (m : Int) < 3 := by omega
            have i2 : ((m : Int)).toNat = m := by omega
            go_upto_region 8 with fail
            by_cases hgt : yy < xx
            · have E := Lib.hid (LN.out hgt)
              clear LN LE
              go_quiet (fail)
              go_wp2
              go_ret
              exact ⟨by rw [E.out]; rfl, HB.out.trans ((below_drewN B.out _).mono HB.out.size)⟩
            · have E := Lib.hid (LE.out hgt)
              clear LN LE
              go_quiet (fail)
              go_wp2
              go_roundw
              case rel => exact ⟨m + 1, by go_num, hl3, E.out, below_drewN B.out _⟩
              case measure => simp [intOf]; omega
          · obtain rfl : m = 3 := by omega
            have E := Lib.hid (YES.out (le3_pt HS.out))
            have HBn := Lib.hid (HB.out.trans (B.out.mono HB.out.size))
            clear HS NO YES
            go_wp2
            go_roundw
            case rel => exact ⟨k + 1, by go_num, by omega, .inl hlt, E.out, HBn.out⟩
            case measure => simp [intOf]; omega
    · go_wp2
      go_ret
      refine ⟨?_, HB.out⟩
      have e : rsB F n = true := allB_yes (fun j hj => HR.out j (by omega))
      rw [e]; rfl
theorem rising_2 (a1 a2 a3 b1 b2 b3 : Int) (g : Nat) (T : TypeId) (w : World) (h : Lok w g T #[.int .i64 a1, .int .i64 a2, .int .i64 a3, .int .i64 b1, .int .i64 b2, .int .i64 b3]) :
    Calls Try.prog 26 #[.slice (some ⟨g, 0, none⟩) 2 2] w fun e w' => e = .returned (.bool (le3 a1 a2 a3 b1 b2 b3)) ∧ Below w.heap.size w w' := by
  have q := rising_any _ 2 2 _ w (rowK_ints (n := 2) (k := 3) [a1, a2, a3, b1, b2, b3] h rfl) (by omega)
  rw [show rsB (rowOf 3 [a1, a2, a3, b1, b2, b3]) 2 = le3 a1 a2 a3 b1 b2 b3 from by simp [rsB, lsB, allB, rowOf]] at q
  exact q
theorem rising_3 (a1 a2 a3 b1 b2 b3 c1 c2 c3 : Int) (g : Nat) (T : TypeId) (w : World) (h : Lok w g T #[.int .i64 a1, .int .i64 a2, .int .i64 a3, .int .i64 b1, .int .i64 b2, .int .i64 b3, .int .i64 c1, .int .i64 c2, .int .i64 c3]) :
    Calls Try.prog 26 #[.slice (some ⟨g, 0, none⟩) 3 3] w fun e w' => e = .returned (.bool (le3 a1 a2 a3 b1 b2 b3 && le3 b1 b2 b3 c1 c2 c3)) ∧ Below w.heap.size w w' := by
  have q := rising_any _ 3 3 _ w (rowK_ints (n := 3) (k := 3) [a1, a2, a3, b1, b2, b3, c1, c2, c3] h rfl) (by omega)
  rw [show rsB (rowOf 3 [a1, a2, a3, b1, b2, b3, c1, c2, c3]) 3 = (le3 a1 a2 a3 b1 b2 b3 && le3 b1 b2 b3 c1 c2 c3) from by simp [rsB, lsB, allB, rowOf]] at q
  exact q
end Go.Proofs.Ytfghjfgdjlkooaa
