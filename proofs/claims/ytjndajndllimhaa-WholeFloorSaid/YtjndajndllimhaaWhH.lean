/-
  The law WholeFloor: its walk, over the reference's numbers.
-/
import Derived.Test.YtjndajndllimhaaSame
import Derived.Test.YtjndajndllimhaaRefN
import Derived.Test.YtjndajndllimhaaWhG
namespace Go.Proofs.Ytjndajndllimhaa
open Go.RowKit

theorem num_parts {w : World} {v : Value} {N : Int} (h : NumV w v N) : ∃ s a n c, v = .agg #[.bool s, .slice a n c] := by
  obtain ⟨a, n, c, D, h, _⟩ := h
  exact ⟨_, a, n, c, h⟩
theorem p10_100 : p10 100 = 10000000000000000000000000000000000000000000000000000000000000000000000000000000000000000000000000000 := by decide +kernel
theorem small_le {N : Int} (h : N.natAbs ≤ 1000000000000000000000000000000000000000000000000000000000000) : Small N := by unfold Small; rw [p10_100]; omega
theorem small_i64 {N : Int} (h : In64 N) : Small N := small_le (by unfold In64 at h; omega)
theorem small_prod {a b : Int} (ha : In64 a) (hb : In64 b) : Small (a * b) := by
  refine small_le ?_
  rw [Int.natAbs_mul]
  unfold In64 at ha hb
  have := Nat.mul_le_mul (show a.natAbs ≤ 9223372036854775808 from by omega) (show b.natAbs ≤ 9223372036854775808 from by omega)
  omega

set_option maxRecDepth 100000 in
set_option maxHeartbeats 1000000 in
theorem rtimes_yes (a b q r : Int) (w : World) (ia : In64 a) (ib : In64 b) (iq : In64 q) (ir : In64 r) (h : b * q + r = a) :
    Calls Try.prog 22 #[.int .i64 a, .int .i64 b, .int .i64 q, .int .i64 r] w fun e w' => e = .returned (.bool true) ∧ Below w.heap.size w w' := by
  have H := Lib.hid h
  have C1 := Lib.hid (fun W => ofInt_any b W ib.1 ib.2)
  have C2 := Lib.hid (fun W => ofInt_any q W iq.1 iq.2)
  have C3 := Lib.hid (fun W => ofInt_any r W ir.1 ir.2)
  have C4 := Lib.hid (fun W => ofInt_any a W ia.1 ia.2)
  have SB := Lib.hid (small_i64 ib)
  have SQ := Lib.hid (small_i64 iq)
  have SR := Lib.hid (small_i64 ir)
  have SP := Lib.hid (small_prod ib iq)
  clear h ia ib iq ir
  go_enter Try.func22, Try.ntmps22
  go_wp2_with fail
  refine (C1.out _).mono ?_
  rintro e w1 ⟨hb1, v1, rfl, n1⟩
  go_wp2_with fail
  refine (C2.out _).mono ?_
  rintro e w2 ⟨hb2, v2, rfl, n2⟩
  go_wp2_with fail
  refine (times_num (n1.keep hb2) n2 SB.out SQ.out).mono ?_
  rintro e w3 ⟨hb3, v3, rfl, n3⟩
  go_wp2_with fail
  refine (C3.out _).mono ?_
  rintro e w4 ⟨hb4, v4, rfl, n4⟩
  go_wp2_with fail
  refine (sum_any (n3.keep hb4) n4 SP.out SR.out).mono ?_
  rintro e w5 ⟨hb5, v5, rfl, n5⟩
  have B5 : Below w.heap.size w w5 := by
    have h1 := hb1
    have h2 := h1.trans (hb2.mono h1.size)
    have h3 := h2.trans (hb3.mono h2.size)
    have h4 := h3.trans (hb4.mono h3.size)
    exact h4.trans (hb5.mono h4.size)
  rw [H.out] at n5
  clear n1 n2 n3 n4 hb1 hb2 hb3 hb4 hb5 C1 C2 C3 SB SQ SR SP H
  obtain ⟨s, x, n, c, rfl⟩ := num_parts n5
  have hsz5 := B5.size
  go_wp2_with fail
  refine (C4.out _).mono ?_
  rintro e w6 ⟨hb6, v6, rfl, n6⟩
  obtain ⟨t, y, m, d, rfl⟩ := num_parts n6
  have x0 : w6.cell? ⟨w5.heap.size, 0, none⟩ = some (.bool s) := keepc hb6 (alloc_cell rfl rfl)
  have x1 : w6.cell? ⟨w5.heap.size, 1, none⟩ = some (.slice x n c) := keepc hb6 (alloc_cell rfl rfl)
  have A5 : Below w5.heap.size w5 (w5.alloc (.cells #[.bool s, .slice x n c] 47)) := (Below.refl _ _).alloc (Nat.le_refl _) _
  have B6 : Below w5.heap.size w5 w6 := A5.trans (hb6.mono (by simp))
  have B7 : Below w5.heap.size w5 (w6.alloc (.cells #[.bool t, .slice y m d] 47)) := B6.alloc B6.size _
  have k5 := n5.keep B7
  have k6 := n6.keep ((Below.refl w6.heap.size w6).alloc (Nat.le_refl _) (.cells #[.bool t, .slice y m d] 47))
  obtain ⟨rfl, rfl, hc, hnc, D, E, ra, rb, hde⟩ := num_same k5 k6
  have y0 : (w6.alloc (.cells #[.bool s, .slice y n d] 47)).cell? ⟨w6.heap.size, 0, none⟩ = some (.bool s) := alloc_cell rfl rfl
  have y1 : (w6.alloc (.cells #[.bool s, .slice y n d] 47)).cell? ⟨w6.heap.size, 1, none⟩ = some (.slice y n d) := alloc_cell rfl rfl
  have C5 := Lib.hid (same_yes x y n c d D E _ ra rb hde (by omega))
  replace x0 := keepa (o := .cells #[.bool s, .slice y n d] 47) x0
  replace x1 := keepa (o := .cells #[.bool s, .slice y n d] 47) x1
  have B8 : Below w.heap.size w (w6.alloc (.cells #[.bool s, .slice y n d] 47)) := B5.trans (B7.mono hsz5)
  have hsz8 := B8.size
  have BB := Lib.hid B8
  clear ra rb hde k5 k6 n5 n6 A5 B5 B6 B7 B8 C4 hb6 hc hnc
  cases s
  all_goals
    go_wp2_with fail
    refine C5.out.mono ?_
    rintro e w9 ⟨rfl, hb9⟩
    go_wp2
    go_ret
    exact ⟨rfl, BB.out.trans (hb9.mono hsz8)⟩

set_option maxRecDepth 100000 in
set_option maxHeartbeats 1000000 in
theorem law_floor (a b : Int) (w : World) (ia : In64 a) (ib : In64 b) :
    Calls Try.prog 4 #[.int .i64 a, .int .i64 b] w fun e w' => e = .returned (.bool true) ∧ Below w.heap.size w w' := by
  rcases fE_ways a b with ⟨h, e⟩ | ⟨rfl, e⟩ | ⟨rfl, rfl, e⟩
  · have sp := fl_spec a b h.1
    obtain ⟨f1, f2, f3, f4, f5⟩ := fl_bd a b h.1 ia.1 ia.2 ib.1 ib.2 h.2
    have F := Lib.hid (fun W => floor2_ok a b W h ia ib)
    obtain ⟨s1, s2, s3⟩ := sp
    have T := Lib.hid (fun W => rtimes_yes a b (flQ a b) (flR a b) W ia ib ⟨f1, f2⟩ ⟨f3, f4⟩ s1)
    have h0 := h.1
    clear h e ia ib f1 f2 f3 f4 f5 s1
    generalize flQ a b = q at *
    generalize flR a b = r at *
    by_cases hp : 0 < b
    · obtain ⟨s4, s5⟩ := s2 hp
      clear s2 s3 h0
      go_enter Try.func4, Try.ntmps4
      go_wp2_with fail
      (refine (F.out _).mono ?_; rintro e w1 ⟨rfl, hb1⟩; have hB1 : Below w.heap.size w w1 := (by refine Below.trans ?_ (hb1.mono (by first | omega | (simp; done) | (simp; omega))); (repeat (first | exact Below.refl _ _ | assumption | refine Below.drew ?_ | refine below_drewN ?_ _ | refine Below.setCell ?_ (by first | omega | (simp; done) | (simp; omega)) _ | refine Below.alloc ?_ (by first | omega | (simp; done) | (simp; omega)) _))); have hsz1 : w.heap.size ≤ w1.heap.size := hB1.size)
      go_wp2_with fail
      (refine (T.out _).mono ?_; rintro e w2 ⟨rfl, hb2⟩; have hB2 : Below w.heap.size w w2 := (by refine Below.trans ?_ (hb2.mono (by first | omega | (simp; done) | (simp; omega))); (repeat (first | exact Below.refl _ _ | assumption | refine Below.drew ?_ | refine below_drewN ?_ _ | refine Below.setCell ?_ (by first | omega | (simp; done) | (simp; omega)) _ | refine Below.alloc ?_ (by first | omega | (simp; done) | (simp; omega)) _))); have hsz2 : w.heap.size ≤ w2.heap.size := hB2.size)
      go_wp2_with fail
      (refine (parted_any _).mono ?_; rintro e w3 ⟨rfl, hb3⟩; have hB3 : Below w.heap.size w w3 := (by refine Below.trans ?_ (hb3.mono (by first | omega | (simp; done) | (simp; omega))); (repeat (first | exact Below.refl _ _ | assumption | refine Below.drew ?_ | refine below_drewN ?_ _ | refine Below.setCell ?_ (by first | omega | (simp; done) | (simp; omega)) _ | refine Below.alloc ?_ (by first | omega | (simp; done) | (simp; omega)) _))); have hsz3 : w.heap.size ≤ w3.heap.size := hB3.size)
      go_wp2
      go_ret
      exact ⟨rfl, hB3⟩
    · have hn : b < 0 := by omega
      obtain ⟨s4, s5⟩ := s3 hn
      clear s2 s3 h0
      go_enter Try.func4, Try.ntmps4
      go_wp2_with fail
      (refine (F.out _).mono ?_; rintro e w1 ⟨rfl, hb1⟩; have hB1 : Below w.heap.size w w1 := (by refine Below.trans ?_ (hb1.mono (by first | omega | (simp; done) | (simp; omega))); (repeat (first | exact Below.refl _ _ | assumption | refine Below.drew ?_ | refine below_drewN ?_ _ | refine Below.setCell ?_ (by first | omega | (simp; done) | (simp; omega)) _ | refine Below.alloc ?_ (by first | omega | (simp; done) | (simp; omega)) _))); have hsz1 : w.heap.size ≤ w1.heap.size := hB1.size)
      go_wp2_with fail
      (refine (T.out _).mono ?_; rintro e w2 ⟨rfl, hb2⟩; have hB2 : Below w.heap.size w w2 := (by refine Below.trans ?_ (hb2.mono (by first | omega | (simp; done) | (simp; omega))); (repeat (first | exact Below.refl _ _ | assumption | refine Below.drew ?_ | refine below_drewN ?_ _ | refine Below.setCell ?_ (by first | omega | (simp; done) | (simp; omega)) _ | refine Below.alloc ?_ (by first | omega | (simp; done) | (simp; omega)) _))); have hsz2 : w.heap.size ≤ w2.heap.size := hB2.size)
      go_wp2_with fail
      (refine (parted_any _).mono ?_; rintro e w3 ⟨rfl, hb3⟩; have hB3 : Below w.heap.size w w3 := (by refine Below.trans ?_ (hb3.mono (by first | omega | (simp; done) | (simp; omega))); (repeat (first | exact Below.refl _ _ | assumption | refine Below.drew ?_ | refine below_drewN ?_ _ | refine Below.setCell ?_ (by first | omega | (simp; done) | (simp; omega)) _ | refine Below.alloc ?_ (by first | omega | (simp; done) | (simp; omega)) _))); have hsz3 : w.heap.size ≤ w3.heap.size := hB3.size)
      go_wp2
      go_ret
      exact ⟨rfl, hB3⟩
  · clear e
    go_enter Try.func4, Try.ntmps4
    go_wp2_with fail
    (refine (floor2_zero a _).mono ?_; rintro e w1 ⟨rfl, hb1⟩; have hB1 : Below w.heap.size w w1 := (by refine Below.trans ?_ (hb1.mono (by first | omega | (simp; done) | (simp; omega))); (repeat (first | exact Below.refl _ _ | assumption | refine Below.drew ?_ | refine below_drewN ?_ _ | refine Below.setCell ?_ (by first | omega | (simp; done) | (simp; omega)) _ | refine Below.alloc ?_ (by first | omega | (simp; done) | (simp; omega)) _))); have hsz1 : w.heap.size ≤ w1.heap.size := hB1.size)
    go_wp2_with fail
    (refine (parted_any _).mono ?_; rintro e w2 ⟨rfl, hb2⟩; have hB2 : Below w.heap.size w w2 := (by refine Below.trans ?_ (hb2.mono (by first | omega | (simp; done) | (simp; omega))); (repeat (first | exact Below.refl _ _ | assumption | refine Below.drew ?_ | refine below_drewN ?_ _ | refine Below.setCell ?_ (by first | omega | (simp; done) | (simp; omega)) _ | refine Below.alloc ?_ (by first | omega | (simp; done) | (simp; omega)) _))); have hsz2 : w.heap.size ≤ w2.heap.size := hB2.size)
    go_wp2
    go_ret
    exact ⟨rfl, hB2⟩
  · clear e ia ib
    go_enter Try.func4, Try.ntmps4
    go_wp2_with fail
    (refine (floor2_wide _).mono ?_; rintro e w1 ⟨rfl, hb1⟩; have hB1 : Below w.heap.size w w1 := (by refine Below.trans ?_ (hb1.mono (by first | omega | (simp; done) | (simp; omega))); (repeat (first | exact Below.refl _ _ | assumption | refine Below.drew ?_ | refine below_drewN ?_ _ | refine Below.setCell ?_ (by first | omega | (simp; done) | (simp; omega)) _ | refine Below.alloc ?_ (by first | omega | (simp; done) | (simp; omega)) _))); have hsz1 : w.heap.size ≤ w1.heap.size := hB1.size)
    go_wp2_with fail
    (refine (parted_any _).mono ?_; rintro e w2 ⟨rfl, hb2⟩; have hB2 : Below w.heap.size w w2 := (by refine Below.trans ?_ (hb2.mono (by first | omega | (simp; done) | (simp; omega))); (repeat (first | exact Below.refl _ _ | assumption | refine Below.drew ?_ | refine below_drewN ?_ _ | refine Below.setCell ?_ (by first | omega | (simp; done) | (simp; omega)) _ | refine Below.alloc ?_ (by first | omega | (simp; done) | (simp; omega)) _))); have hsz2 : w.heap.size ≤ w2.heap.size := hB2.size)
    go_wp2
    go_ret
    exact ⟨rfl, hB2⟩
end Go.Proofs.Ytjndajndllimhaa
