/-
  The law WideDivides: its walks.
-/
import Derived.Test.YtkgednbgafhcaaaDoorWideI
import Derived.LoopTactic
import Derived.Deep.LoopGhost
namespace Go.Proofs.YtkgednbgafhcaaaDoor
open Go.RowKit

set_option maxHeartbeats 1000000 in
theorem law_div_no1 (hi lo n : Int) (w : World) (ht : Tab w) (h : ¬ Rt hi lo) :
    Calls Tryd.prog 7 #[.agg #[.int .i64 hi, .int .i64 lo], .int .i64 n] w fun e w' => e = .returned (.bool true) ∧ Below w.heap.size w w' := by
  have HT := Lib.hid ht
  have H := Lib.hid h
  clear ht h
  go_enter Tryd.func7, Tryd.ntmps7
  go_wp2_with fail
  (refine (div_no1 _ _ _ _ H.out).mono ?_; rintro e w1 ⟨rfl, hb1⟩; have hB1 : Below w.heap.size w w1 := (by refine Below.trans ?_ (hb1.mono (by first | omega | (simp; done) | (simp; omega))); (repeat (first | exact Below.refl _ _ | assumption | refine Below.drew ?_ | refine below_drewN ?_ _ | refine Below.setCell ?_ (by first | omega | (simp; done) | (simp; omega)) _ | refine Below.alloc ?_ (by first | omega | (simp; done) | (simp; omega)) _))); have hsz1 : w.heap.size ≤ w1.heap.size := hB1.size)
  have a0 : w1.cell? ⟨w.heap.size, 0, none⟩ = some (.int .i64 hi) := keepc hb1 (by simp)
  have a1 : w1.cell? ⟨w.heap.size, 1, none⟩ = some (.int .i64 lo) := keepc hb1 (by simp)
  go_wp2_with fail
  (refine (widened_any _ (HT.out.below (by (repeat (first | exact Below.refl _ _ | assumption | refine Below.drew ?_ | refine below_drewN ?_ _ | refine Below.setCell ?_ (by first | omega | (simp; done) | (simp; omega)) _ | refine Below.alloc ?_ (by first | omega | (simp; done) | (simp; omega)) _))))).mono ?_; rintro e w2 ⟨rfl, hb2⟩; have hB2 : Below w.heap.size w w2 := (by refine Below.trans ?_ (hb2.mono (by first | omega | (simp; done) | (simp; omega))); (repeat (first | exact Below.refl _ _ | assumption | refine Below.drew ?_ | refine below_drewN ?_ _ | refine Below.setCell ?_ (by first | omega | (simp; done) | (simp; omega)) _ | refine Below.alloc ?_ (by first | omega | (simp; done) | (simp; omega)) _))); have hsz2 : w.heap.size ≤ w2.heap.size := hB2.size; replace a0 := keepc hb2 (by first | exact a0 | exact keepa a0 | exact keepa (keepa a0) | (simp [go_sem, *]; done)); replace a1 := keepc hb2 (by first | exact a1 | exact keepa a1 | exact keepa (keepa a1) | (simp [go_sem, *]; done)))
  go_wp2_with fail
  (refine (is_no _ _ _ H.out).mono ?_; rintro e w3 ⟨rfl, hb3⟩; have hB3 : Below w.heap.size w w3 := (by refine Below.trans ?_ (hb3.mono (by first | omega | (simp; done) | (simp; omega))); (repeat (first | exact Below.refl _ _ | assumption | refine Below.drew ?_ | refine below_drewN ?_ _ | refine Below.setCell ?_ (by first | omega | (simp; done) | (simp; omega)) _ | refine Below.alloc ?_ (by first | omega | (simp; done) | (simp; omega)) _))); have hsz3 : w.heap.size ≤ w3.heap.size := hB3.size)
  go_wp2_with fail
  go_ret
  exact ⟨rfl, hB3⟩
set_option maxHeartbeats 1000000 in
theorem law_div_no2 (hi lo n : Int) (w : World) (ht : Tab w) (h : Rt hi lo) (k : ¬ Dv n) :
    Calls Tryd.prog 7 #[.agg #[.int .i64 hi, .int .i64 lo], .int .i64 n] w fun e w' => e = .returned (.bool true) ∧ Below w.heap.size w w' := by
  have HT := Lib.hid ht
  have H := Lib.hid h
  have K := Lib.hid k
  have k' : n < 1 ∨ 1000000000 < n := by unfold Dv at k; omega
  clear ht h k
  by_cases k1 : n < 1
  · clear k'
    go_enter Tryd.func7, Tryd.ntmps7
    go_wp2_with fail
    (refine (div_no2 _ _ _ _ H.out K.out).mono ?_; rintro e w1 ⟨rfl, hb1⟩; have hB1 : Below w.heap.size w w1 := (by refine Below.trans ?_ (hb1.mono (by first | omega | (simp; done) | (simp; omega))); (repeat (first | exact Below.refl _ _ | assumption | refine Below.drew ?_ | refine below_drewN ?_ _ | refine Below.setCell ?_ (by first | omega | (simp; done) | (simp; omega)) _ | refine Below.alloc ?_ (by first | omega | (simp; done) | (simp; omega)) _))); have hsz1 : w.heap.size ≤ w1.heap.size := hB1.size)
    have a0 : w1.cell? ⟨w.heap.size, 0, none⟩ = some (.int .i64 hi) := keepc hb1 (by simp)
    have a1 : w1.cell? ⟨w.heap.size, 1, none⟩ = some (.int .i64 lo) := keepc hb1 (by simp)
    go_wp2_with fail
    (refine (widened_any _ (HT.out.below (by (repeat (first | exact Below.refl _ _ | assumption | refine Below.drew ?_ | refine below_drewN ?_ _ | refine Below.setCell ?_ (by first | omega | (simp; done) | (simp; omega)) _ | refine Below.alloc ?_ (by first | omega | (simp; done) | (simp; omega)) _))))).mono ?_; rintro e w2 ⟨rfl, hb2⟩; have hB2 : Below w.heap.size w w2 := (by refine Below.trans ?_ (hb2.mono (by first | omega | (simp; done) | (simp; omega))); (repeat (first | exact Below.refl _ _ | assumption | refine Below.drew ?_ | refine below_drewN ?_ _ | refine Below.setCell ?_ (by first | omega | (simp; done) | (simp; omega)) _ | refine Below.alloc ?_ (by first | omega | (simp; done) | (simp; omega)) _))); have hsz2 : w.heap.size ≤ w2.heap.size := hB2.size; replace a0 := keepc hb2 (by first | exact a0 | exact keepa a0 | exact keepa (keepa a0) | (simp [go_sem, *]; done)); replace a1 := keepc hb2 (by first | exact a1 | exact keepa a1 | exact keepa (keepa a1) | (simp [go_sem, *]; done)))
    go_wp2_with fail
    (refine (is_yes _ _ _ H.out).mono ?_; rintro e w3 ⟨rfl, hb3⟩; have hB3 : Below w.heap.size w w3 := (by refine Below.trans ?_ (hb3.mono (by first | omega | (simp; done) | (simp; omega))); (repeat (first | exact Below.refl _ _ | assumption | refine Below.drew ?_ | refine below_drewN ?_ _ | refine Below.setCell ?_ (by first | omega | (simp; done) | (simp; omega)) _ | refine Below.alloc ?_ (by first | omega | (simp; done) | (simp; omega)) _))); have hsz3 : w.heap.size ≤ w3.heap.size := hB3.size)
    go_wp2_with fail
    go_ret
    exact ⟨rfl, hB3⟩
  · have k2 : 1000000000 < n := by omega
    clear k'
    go_enter Tryd.func7, Tryd.ntmps7
    go_wp2_with fail
    (refine (div_no2 _ _ _ _ H.out K.out).mono ?_; rintro e w1 ⟨rfl, hb1⟩; have hB1 : Below w.heap.size w w1 := (by refine Below.trans ?_ (hb1.mono (by first | omega | (simp; done) | (simp; omega))); (repeat (first | exact Below.refl _ _ | assumption | refine Below.drew ?_ | refine below_drewN ?_ _ | refine Below.setCell ?_ (by first | omega | (simp; done) | (simp; omega)) _ | refine Below.alloc ?_ (by first | omega | (simp; done) | (simp; omega)) _))); have hsz1 : w.heap.size ≤ w1.heap.size := hB1.size)
    have a0 : w1.cell? ⟨w.heap.size, 0, none⟩ = some (.int .i64 hi) := keepc hb1 (by simp)
    have a1 : w1.cell? ⟨w.heap.size, 1, none⟩ = some (.int .i64 lo) := keepc hb1 (by simp)
    go_wp2_with fail
    (refine (widened_any _ (HT.out.below (by (repeat (first | exact Below.refl _ _ | assumption | refine Below.drew ?_ | refine below_drewN ?_ _ | refine Below.setCell ?_ (by first | omega | (simp; done) | (simp; omega)) _ | refine Below.alloc ?_ (by first | omega | (simp; done) | (simp; omega)) _))))).mono ?_; rintro e w2 ⟨rfl, hb2⟩; have hB2 : Below w.heap.size w w2 := (by refine Below.trans ?_ (hb2.mono (by first | omega | (simp; done) | (simp; omega))); (repeat (first | exact Below.refl _ _ | assumption | refine Below.drew ?_ | refine below_drewN ?_ _ | refine Below.setCell ?_ (by first | omega | (simp; done) | (simp; omega)) _ | refine Below.alloc ?_ (by first | omega | (simp; done) | (simp; omega)) _))); have hsz2 : w.heap.size ≤ w2.heap.size := hB2.size; replace a0 := keepc hb2 (by first | exact a0 | exact keepa a0 | exact keepa (keepa a0) | (simp [go_sem, *]; done)); replace a1 := keepc hb2 (by first | exact a1 | exact keepa a1 | exact keepa (keepa a1) | (simp [go_sem, *]; done)))
    go_wp2_with fail
    (refine (is_yes _ _ _ H.out).mono ?_; rintro e w3 ⟨rfl, hb3⟩; have hB3 : Below w.heap.size w w3 := (by refine Below.trans ?_ (hb3.mono (by first | omega | (simp; done) | (simp; omega))); (repeat (first | exact Below.refl _ _ | assumption | refine Below.drew ?_ | refine below_drewN ?_ _ | refine Below.setCell ?_ (by first | omega | (simp; done) | (simp; omega)) _ | refine Below.alloc ?_ (by first | omega | (simp; done) | (simp; omega)) _))); have hsz3 : w.heap.size ≤ w3.heap.size := hB3.size)
    go_wp2_with fail
    go_ret
    exact ⟨rfl, hB3⟩

theorem dv_facts (hi lo n : Int) (h : Rt hi lo) (k : Dv n) : Rt (dvH hi n) (dvL hi lo n) ∧ 0 ≤ dvR hi lo n ∧ dvR hi lo n < n ∧ n * (dvH hi n * 1000000000000000000 + dvL hi lo n) + dvR hi lo n = hi * 1000000000000000000 + lo := by
  obtain ⟨l0, l1, x0, x1⟩ := h
  obtain ⟨n1, n2⟩ := k
  have e0 := Int.mul_ediv_add_emod hi n
  have q0 := Int.emod_nonneg hi (b := n) (by omega)
  have q1 := Int.emod_lt_of_pos hi (b := n) (by omega)
  have e1 := Int.mul_ediv_add_emod (hi % n * 1000000000000000000 + lo) n
  have r0 := Int.emod_nonneg (hi % n * 1000000000000000000 + lo) (b := n) (by omega)
  have r1 := Int.emod_lt_of_pos (hi % n * 1000000000000000000 + lo) (b := n) (by omega)
  have d0 : 0 ≤ (hi % n * 1000000000000000000 + lo) / n := Int.ediv_nonneg (by omega) (by omega)
  have d1 : (hi % n * 1000000000000000000 + lo) / n < 1000000000000000000 := Int.ediv_lt_of_lt_mul (by omega) (by omega)
  have h0 : -4000000000000000000 ≤ hi / n := (Int.le_ediv_iff_mul_le (by omega)).2 (by have : 4000000000000000000 * 1 ≤ 4000000000000000000 * n := Int.mul_le_mul_of_nonneg_left n1 (by omega); omega)
  have h1 : hi / n < 4000000000000000001 := (Int.ediv_lt_iff_lt_mul (by omega)).2 (by have : 4000000000000000001 * 1 ≤ 4000000000000000001 * n := Int.mul_le_mul_of_nonneg_left n1 (by omega); omega)
  unfold Rt dvH dvL dvR
  refine ⟨⟨d0, d1, h0, by omega⟩, r0, r1, ?_⟩
  rw [Int.mul_add, ← Int.mul_assoc]
  omega

/-- After k sums. -/
theorem dv_step (V qh ql : Int) :
    sH (V / 1000000000000000000) (V % 1000000000000000000) qh ql = (V + (qh * 1000000000000000000 + ql)) / 1000000000000000000 ∧ sL (V % 1000000000000000000) ql = (V + (qh * 1000000000000000000 + ql)) % 1000000000000000000 := by
  unfold sH sL; omega

set_option maxHeartbeats 1000000 in
theorem law_div_far (hi lo n : Int) (w : World) (ht : Tab w) (h : Rt hi lo) (k : Dv n) (c : dvH hi n < -1000000 ∨ 1000000 < dvH hi n ∨ 1000 < n) :
    Calls Tryd.prog 7 #[.agg #[.int .i64 hi, .int .i64 lo], .int .i64 n] w fun e w' => e = .returned (.bool true) ∧ Below w.heap.size w w' := by
  have HT := Lib.hid ht
  obtain ⟨f0, f1, f2, _⟩ := dv_facts hi lo n h k
  have CD := Lib.hid (fun W : World => div_ok hi lo n W h k)
  have H := Lib.hid f0
  clear ht h k f0
  generalize dvH hi n = qh at *
  generalize dvL hi lo n = ql at *
  generalize dvR hi lo n = R at *
  have p1 : decide (R < 0) = false := by simp; omega
  have p2 : decide (n ≤ R) = false := by simp; omega
  by_cases c1 : qh < -1000000
  · clear c
    go_enter Tryd.func7, Tryd.ntmps7
    go_wp2_with fail
    (refine (CD.out _).mono ?_; rintro e w1 ⟨rfl, hb1⟩; have hB1 : Below w.heap.size w w1 := (by refine Below.trans ?_ (hb1.mono (by first | omega | (simp; done) | (simp; omega))); (repeat (first | exact Below.refl _ _ | assumption | refine Below.drew ?_ | refine below_drewN ?_ _ | refine Below.setCell ?_ (by first | omega | (simp; done) | (simp; omega)) _ | refine Below.alloc ?_ (by first | omega | (simp; done) | (simp; omega)) _))); have hsz1 : w.heap.size ≤ w1.heap.size := hB1.size)
    go_wp2_with fail
    (refine (is_yes _ _ _ H.out).mono ?_; rintro e w2 ⟨rfl, hb2⟩; have hB2 : Below w.heap.size w w2 := (by refine Below.trans ?_ (hb2.mono (by first | omega | (simp; done) | (simp; omega))); (repeat (first | exact Below.refl _ _ | assumption | refine Below.drew ?_ | refine below_drewN ?_ _ | refine Below.setCell ?_ (by first | omega | (simp; done) | (simp; omega)) _ | refine Below.alloc ?_ (by first | omega | (simp; done) | (simp; omega)) _))); have hsz2 : w.heap.size ≤ w2.heap.size := hB2.size)
    have a0 : w2.cell? ⟨w1.heap.size, 0, none⟩ = some (.int .i64 qh) := keepc hb2 (by simp)
    have a1 : w2.cell? ⟨w1.heap.size, 1, none⟩ = some (.int .i64 ql) := keepc hb2 (by simp)
    go_wp2_with fail
    (refine (widened_any _ (HT.out.below (by (repeat (first | exact Below.refl _ _ | assumption | refine Below.drew ?_ | refine below_drewN ?_ _ | refine Below.setCell ?_ (by first | omega | (simp; done) | (simp; omega)) _ | refine Below.alloc ?_ (by first | omega | (simp; done) | (simp; omega)) _))))).mono ?_; rintro e w3 ⟨rfl, hb3⟩; have hB3 : Below w.heap.size w w3 := (by refine Below.trans ?_ (hb3.mono (by first | omega | (simp; done) | (simp; omega))); (repeat (first | exact Below.refl _ _ | assumption | refine Below.drew ?_ | refine below_drewN ?_ _ | refine Below.setCell ?_ (by first | omega | (simp; done) | (simp; omega)) _ | refine Below.alloc ?_ (by first | omega | (simp; done) | (simp; omega)) _))); have hsz3 : w.heap.size ≤ w3.heap.size := hB3.size)
    go_wp2_with fail
    go_ret
    exact ⟨rfl, hB3⟩
  · by_cases c2 : 1000000 < qh
    · clear c
      go_enter Tryd.func7, Tryd.ntmps7
      go_wp2_with fail
      (refine (CD.out _).mono ?_; rintro e w1 ⟨rfl, hb1⟩; have hB1 : Below w.heap.size w w1 := (by refine Below.trans ?_ (hb1.mono (by first | omega | (simp; done) | (simp; omega))); (repeat (first | exact Below.refl _ _ | assumption | refine Below.drew ?_ | refine below_drewN ?_ _ | refine Below.setCell ?_ (by first | omega | (simp; done) | (simp; omega)) _ | refine Below.alloc ?_ (by first | omega | (simp; done) | (simp; omega)) _))); have hsz1 : w.heap.size ≤ w1.heap.size := hB1.size)
      go_wp2_with fail
      (refine (is_yes _ _ _ H.out).mono ?_; rintro e w2 ⟨rfl, hb2⟩; have hB2 : Below w.heap.size w w2 := (by refine Below.trans ?_ (hb2.mono (by first | omega | (simp; done) | (simp; omega))); (repeat (first | exact Below.refl _ _ | assumption | refine Below.drew ?_ | refine below_drewN ?_ _ | refine Below.setCell ?_ (by first | omega | (simp; done) | (simp; omega)) _ | refine Below.alloc ?_ (by first | omega | (simp; done) | (simp; omega)) _))); have hsz2 : w.heap.size ≤ w2.heap.size := hB2.size)
      have a0 : w2.cell? ⟨w1.heap.size, 0, none⟩ = some (.int .i64 qh) := keepc hb2 (by simp)
      have a1 : w2.cell? ⟨w1.heap.size, 1, none⟩ = some (.int .i64 ql) := keepc hb2 (by simp)
      go_wp2_with fail
      (refine (widened_any _ (HT.out.below (by (repeat (first | exact Below.refl _ _ | assumption | refine Below.drew ?_ | refine below_drewN ?_ _ | refine Below.setCell ?_ (by first | omega | (simp; done) | (simp; omega)) _ | refine Below.alloc ?_ (by first | omega | (simp; done) | (simp; omega)) _))))).mono ?_; rintro e w3 ⟨rfl, hb3⟩; have hB3 : Below w.heap.size w w3 := (by refine Below.trans ?_ (hb3.mono (by first | omega | (simp; done) | (simp; omega))); (repeat (first | exact Below.refl _ _ | assumption | refine Below.drew ?_ | refine below_drewN ?_ _ | refine Below.setCell ?_ (by first | omega | (simp; done) | (simp; omega)) _ | refine Below.alloc ?_ (by first | omega | (simp; done) | (simp; omega)) _))); have hsz3 : w.heap.size ≤ w3.heap.size := hB3.size)
      go_wp2_with fail
      go_ret
      exact ⟨rfl, hB3⟩
    · have c3 : 1000 < n := by omega
      clear c
      go_enter Tryd.func7, Tryd.ntmps7
      go_wp2_with fail
      (refine (CD.out _).mono ?_; rintro e w1 ⟨rfl, hb1⟩; have hB1 : Below w.heap.size w w1 := (by refine Below.trans ?_ (hb1.mono (by first | omega | (simp; done) | (simp; omega))); (repeat (first | exact Below.refl _ _ | assumption | refine Below.drew ?_ | refine below_drewN ?_ _ | refine Below.setCell ?_ (by first | omega | (simp; done) | (simp; omega)) _ | refine Below.alloc ?_ (by first | omega | (simp; done) | (simp; omega)) _))); have hsz1 : w.heap.size ≤ w1.heap.size := hB1.size)
      go_wp2_with fail
      (refine (is_yes _ _ _ H.out).mono ?_; rintro e w2 ⟨rfl, hb2⟩; have hB2 : Below w.heap.size w w2 := (by refine Below.trans ?_ (hb2.mono (by first | omega | (simp; done) | (simp; omega))); (repeat (first | exact Below.refl _ _ | assumption | refine Below.drew ?_ | refine below_drewN ?_ _ | refine Below.setCell ?_ (by first | omega | (simp; done) | (simp; omega)) _ | refine Below.alloc ?_ (by first | omega | (simp; done) | (simp; omega)) _))); have hsz2 : w.heap.size ≤ w2.heap.size := hB2.size)
      have a0 : w2.cell? ⟨w1.heap.size, 0, none⟩ = some (.int .i64 qh) := keepc hb2 (by simp)
      have a1 : w2.cell? ⟨w1.heap.size, 1, none⟩ = some (.int .i64 ql) := keepc hb2 (by simp)
      go_wp2_with fail
      (refine (widened_any _ (HT.out.below (by (repeat (first | exact Below.refl _ _ | assumption | refine Below.drew ?_ | refine below_drewN ?_ _ | refine Below.setCell ?_ (by first | omega | (simp; done) | (simp; omega)) _ | refine Below.alloc ?_ (by first | omega | (simp; done) | (simp; omega)) _))))).mono ?_; rintro e w3 ⟨rfl, hb3⟩; have hB3 : Below w.heap.size w w3 := (by refine Below.trans ?_ (hb3.mono (by first | omega | (simp; done) | (simp; omega))); (repeat (first | exact Below.refl _ _ | assumption | refine Below.drew ?_ | refine below_drewN ?_ _ | refine Below.setCell ?_ (by first | omega | (simp; done) | (simp; omega)) _ | refine Below.alloc ?_ (by first | omega | (simp; done) | (simp; omega)) _))); have hsz3 : w.heap.size ≤ w3.heap.size := hB3.size)
      go_wp2_with fail
      go_ret
      exact ⟨rfl, hB3⟩
end Go.Proofs.YtkgednbgafhcaaaDoor
