/-
  The library's stable sort over a row of places: the worlds that it passes through; ranges are changed, parts turned round.
-/
import Derived.Test.YtbcbocnblkepcaaRel
import Derived.Test.YtbcbocnblkepcaaWideR
import Derived.Test.YtbcbocnblkepcaaSoPl
import Derived.RegionTactic
import Derived.BigRegion
namespace Go.Proofs.Ytbcbocnblkepcaa
open Go.RowKit

/-- The row of places lies in block g and holds D; all that lay ahead of it lies as it lay. -/
structure PW (w0 : World) (g n : Nat) (D : Nat → Nat) (W : World) : Prop where
  below : Below w0.heap.size w0 W
  ge : w0.heap.size ≤ g
  lt : g < W.heap.size
  cell : ∀ k, k < n → W.cell? ⟨g, k, none⟩ = some (.int .i64 (D k))
  frz : ∀ k, k < n → W.frozen? ⟨g, k, none⟩ = false
theorem PW.keep {w0 W W' : World} {g n : Nat} {D : Nat → Nat} (h : PW w0 g n D W) (hb : Below W.heap.size W W') : PW w0 g n D W' where
  below := h.below.trans (hb.mono h.below.size)
  ge := h.ge
  lt := Nat.lt_of_lt_of_le h.lt hb.size
  cell := fun k hk => keepc hb (h.cell k hk)
  frz := fun k hk => (hb.frozen (p := ⟨g, k, none⟩) h.lt).trans (h.frz k hk)
theorem PW.drew {w0 W : World} {g n : Nat} {D : Nat → Nat} (h : PW w0 g n D W) : PW w0 g n D W.drew := h.keep (Below.refl _ _).drew
theorem cell_set_same {W : World} {p : Addr} {u v : Value} (h : W.cell? p = some u) : (W.setCell p v).cell? p = some v := World.cell?_setCell_same _ _ _ h
theorem cell_set_other {W : World} {g i j : Nat} {u v : Value} (h : W.cell? ⟨g, j, none⟩ = some u) (n : i ≠ j) : (W.setCell ⟨g, i, none⟩ v).cell? ⟨g, j, none⟩ = some u :=
  (World.cell?_setCell_other _ _ _ _ (by intro e; simp only [Addr.mk.injEq] at e; exact n e.2.1)).trans h
theorem PW.swap {w0 W : World} {g n : Nat} {D : Nat → Nat} (h : PW w0 g n D W) {i j : Nat} (hi : i < n) (hj : j < n) (hij : i ≠ j) :
    PW w0 g n (swp D i j) ((W.setCell ⟨g, i, none⟩ (.int .i64 (D j))).setCell ⟨g, j, none⟩ (.int .i64 (D i))) where
  below := (h.below.setCell h.ge _).setCell h.ge _
  ge := h.ge
  lt := Nat.lt_of_lt_of_le h.lt (((Below.refl 0 W).setCell (p := ⟨g, i, none⟩) (Nat.zero_le _) (.int .i64 (D j))).setCell (p := ⟨g, j, none⟩) (Nat.zero_le _) (.int .i64 (D i))).size
  cell := fun k hk => by
    by_cases h2 : k = j
    · subst h2; rw [swp_2]
      exact cell_set_same (cell_set_other (h.cell k hj) hij)
    · by_cases h1 : k = i
      · subst h1; rw [swp_1]
        exact cell_set_other (cell_set_same (h.cell k hi)) (fun e => h2 e.symm)
      · rw [swp_3 D h1 h2]
        exact cell_set_other (cell_set_other (h.cell k hk) (fun e => h1 e.symm)) (fun e => h2 e.symm)
  frz := fun k hk => by rw [World.frozen?_setCell, World.frozen?_setCell]; exact h.frz k hk
/-- What a step that changes two places wants. -/
theorem PW.two {w0 W : World} {g n : Nat} {D : Nat → Nat} (h : PW w0 g n D W) {i j : Nat} (hi : i < n) (hj : j < n) (hij : i ≠ j) :
    W.cell? ⟨g, i, none⟩ = some (.int .i64 (D i)) ∧ W.cell? ⟨g, j, none⟩ = some (.int .i64 (D j)) ∧ W.frozen? ⟨g, i, none⟩ = false ∧ W.frozen? ⟨g, j, none⟩ = false ∧ (∀ v, (W.setCell ⟨g, i, none⟩ v).cell? ⟨g, j, none⟩ = some (.int .i64 (D j))) :=
  ⟨h.cell i hi, h.cell j hj, h.frz i hi, h.frz j hj, fun _ => cell_set_other (h.cell j hj) hij⟩

set_option maxRecDepth 100000 in
set_option maxHeartbeats 4000000 in
theorem swapRange_ok (w0 : World) (g n cap : Nat) (D : Nat → Nat) (a b k : Nat) (fv : Value) (w : World) (h : PW w0 g n D w) (hn : n ≤ 1000000) (hab : a + k ≤ b) (hb : b + k ≤ n) :
    Calls Try.prog 60 #[.slice (some ⟨g, 0, none⟩) n cap, .int .i64 a, .int .i64 b, .int .i64 k, fv] w fun e w' => e = .returned (.tuple #[]) ∧ PW w0 g n (swR D a b k) w' := by
  have H := Lib.hid h
  clear h
  go_enter Try.func60, Try.ntmps60
  go_wp2_with fail
  go_loopw [10] (fun x wr => ∃ t : Nat, x = .int .i64 t ∧ t ≤ k ∧ PW w0 g n (swR D a b t) wr) (fun x _ => k - (intOf x).toNat)
  case atStart => exact ⟨0, rfl, Nat.zero_le _, by rw [swR_none]; exact H.out⟩
  case round =>
    obtain ⟨t, rfl, ht, hP⟩ := hrel
    by_cases hlt : t < k
    · have HP := Lib.hid hP
      have HS := Lib.hid (hP.swap (i := a + t) (j := b + t) (by omega) (by omega) (by omega))
      rw [swR_step D hlt hab] at HS
      obtain ⟨c1, c2, f1, f2, c3⟩ := hP.two (i := a + t) (j := b + t) (by omega) (by omega) (by omega)
      clear hP
      generalize swR D a b t (a + t) = x at *
      generalize swR D a b t (b + t) = y at *
      have e1 : IntKind.i64.wrap ((a : Int) + t) = (a : Int) + t := IntWalk.i64_in _ (by omega)
      have e2 : IntKind.i64.wrap ((b : Int) + t) = (b : Int) + t := IntWalk.i64_in _ (by omega)
      have p1 : (0 : Int) ≤ (a : Int) + t := by omega
      have p2 : (0 : Int) ≤ (b : Int) + t := by omega
      have q1 : (a : Int) + t < (n : Int) := by omega
      have q2 : (b : Int) + t < (n : Int) := by omega
      have t1 : ((a : Int) + t).toNat = a + t := by omega
      have t2 : ((b : Int) + t).toNat = b + t := by omega
      have hz : a + t ≠ b + t := by omega
      generalize a + t = i at *
      generalize b + t = j at *
      go_wp2_with fail
      go_region
      go_wp2
      go_roundw
      case rel => exact ⟨t + 1, by go_num, hlt, HS.out.drew⟩
      case measure => simp [intOf]; omega
    · obtain rfl : t = k := by omega
      go_wp2
      go_end0
      exact ⟨rfl, hP⟩
theorem swapRange_int (w0 : World) (g n cap : Nat) (D : Nat → Nat) (a b k : Nat) (A B K : Int) (fv : Value) (w : World) (h : PW w0 g n D w) (hn : n ≤ 1000000) (hab : a + k ≤ b) (hb : b + k ≤ n) (eA : A = a) (eB : B = b) (eK : K = k) :
    Calls Try.prog 60 #[.slice (some ⟨g, 0, none⟩) n cap, .int .i64 A, .int .i64 B, .int .i64 K, fv] w fun e w' => e = .returned (.tuple #[]) ∧ PW w0 g n (swR D a b k) w' := by
  rw [eA, eB, eK]
  exact swapRange_ok w0 g n cap D a b k fv w h hn hab hb

/-- Where a rotation by ranges stands. -/
structure RotJ (D0 D : Nat → Nat) (a m b p i j : Nat) : Prop where
  i0 : 0 < i
  j0 : 0 < j
  pm : p + i = m
  pa : a ≤ p
  jb : m + j ≤ b
  eq : rotD D p m (m + j) = rotD D0 a m b
theorem RotJ.big {D0 D : Nat → Nat} {a m b p i j : Nat} (h : RotJ D0 D a m b p i j) (k : j < i) : RotJ D0 (swR D p m j) a m b (p + j) (i - j) j where
  i0 := by omega
  j0 := h.j0
  pm := by have := h.pm; omega
  pa := by have := h.pa; omega
  jb := h.jb
  eq := by rw [← h.eq, ← h.pm]; exact rot_big D p i j (by omega)
theorem RotJ.small {D0 D : Nat → Nat} {a m b p i j : Nat} (h : RotJ D0 D a m b p i j) (k : i < j) : RotJ D0 (swR D p (p + j) i) a m b p i (j - i) where
  i0 := h.i0
  j0 := by omega
  pm := h.pm
  pa := h.pa
  jb := by have := h.jb; omega
  eq := by rw [← h.eq, ← h.pm, show p + i + (j - i) = p + j from by omega]; exact rot_small D p i j (by omega)
theorem RotJ.both {D0 D : Nat → Nat} {a m b p i : Nat} (h : RotJ D0 D a m b p i i) : swR D p m i = rotD D0 a m b := by
  rw [← h.eq, ← h.pm]; exact rot_both D p i

set_option maxRecDepth 100000 in
set_option maxHeartbeats 4000000 in
theorem rotate_ok (w0 : World) (g n cap : Nat) (D : Nat → Nat) (a m b : Nat) (fv : Value) (w : World) (h : PW w0 g n D w) (hn : n ≤ 1000000) (ham : a < m) (hmb : m < b) (hb : b ≤ n) :
    Calls Try.prog 59 #[.slice (some ⟨g, 0, none⟩) n cap, .int .i64 a, .int .i64 m, .int .i64 b, fv] w fun e w' => e = .returned (.tuple #[]) ∧ PW w0 g n (rotD D a m b) w' := by
  have H := Lib.hid h
  clear h
  go_enter Try.func59, Try.ntmps59
  go_wp2_with fail
  go_loopw [10, 11] (fun x y wr => ∃ (p i j : Nat) (E : Nat → Nat), x = .int .i64 i ∧ y = .int .i64 j ∧ RotJ D E a m b p i j ∧ PW w0 g n E wr) (fun x y _ => (intOf x).toNat + (intOf y).toNat)
  case atStart => exact ⟨a, m - a, b - m, D, by go_num, by go_num, ⟨by omega, by omega, by omega, by omega, by omega, by rw [show m + (b - m) = b from by omega]⟩, H.out⟩
  case round =>
    obtain ⟨p, i, j, E, rfl, rfl, hJ, hP⟩ := hrel
    have HP := Lib.hid hP
    have HJ := Lib.hid hJ
    obtain ⟨i0, j0, pm, pa, jb, -⟩ := hJ
    clear hP
    by_cases hij : i = j
    · subst hij
      have S := Lib.hid (swapRange_int w0 g n cap E p m i (m - i) m i fv _ HP.out hn (by omega) (by omega) (by omega) rfl rfl)
      go_wp2_with fail
      ((with_reducible refine (S.out).mono ?_); rintro e w1 ⟨rfl, hP1⟩)
      rw [HJ.out.both] at hP1
      go_wp2
      go_end0
      exact ⟨rfl, hP1⟩
    · have hne : ¬ ((i : Int) = j) := by omega
      by_cases hlt : j < i
      · have hgt : (j : Int) < i := by omega
        have S := Lib.hid (swapRange_int w0 g n cap E p m j (m - i) m j fv _ HP.out hn (by omega) (by omega) (by omega) rfl rfl)
        have HN := Lib.hid (HJ.out.big hlt)
        go_wp2_with fail
        ((with_reducible refine (S.out).mono ?_); rintro e w1 ⟨rfl, hP1⟩)
        have HP1 := Lib.hid hP1
        clear hP1
        go_wp2
        go_roundw
        case rel => exact ⟨p + j, i - j, j, _, by go_num, rfl, HN.out, HP1.out⟩
        case measure => simp [intOf]; omega
      · have hgt : ¬ (j : Int) < i := by omega
        have S := Lib.hid (swapRange_int w0 g n cap E p (p + j) i (m - i) (m + j - i) i fv _ HP.out hn (by omega) (by omega) (by omega) (by omega) rfl)
        have HN := Lib.hid (HJ.out.small (by omega))
        go_wp2_with fail
        ((with_reducible refine (S.out).mono ?_); rintro e w1 ⟨rfl, hP1⟩)
        have HP1 := Lib.hid hP1
        clear hP1
        go_wp2
        go_roundw
        case rel => exact ⟨p, i, j - i, _, rfl, by go_num, HN.out, HP1.out⟩
        case measure => simp [intOf]; omega
end Go.Proofs.Ytbcbocnblkepcaa
