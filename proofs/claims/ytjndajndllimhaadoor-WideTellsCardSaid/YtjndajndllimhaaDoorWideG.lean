/-
  The chapter's own rows: widened answers true.
-/
import Derived.Test.YtjndajndllimhaaDoorWideF
import Derived.Deep.DrawnRows
namespace Go.Proofs.YtjndajndllimhaaDoor
open Go.RowKit
attribute [local go_sem ↓] Go.wp_at_zero Go.wp_at_succ

theorem cM1 (W : World) : Calls Tryd.prog 5 #[.int .i64 1000000000000, .int .i64 3000000] W fun e w' => e = .returned (.tuple #[.agg #[.int .i64 3, .int .i64 0], .int .i64 0]) ∧ Below W.heap.size W w' := by
  simpa using mul_ok 1000000000000 3000000 W (by unfold Fac; omega) (by unfold Fac; omega)
theorem cM2 (W : World) : Calls Tryd.prog 5 #[.int .i64 (-10000000000), .int .i64 10000000000] W fun e w' => e = .returned (.tuple #[.agg #[.int .i64 (-100), .int .i64 0], .int .i64 0]) ∧ Below W.heap.size W w' := by
  simpa using mul_ok (-10000000000) 10000000000 W (by unfold Fac; omega) (by unfold Fac; omega)
theorem cM3 (W : World) : Calls Tryd.prog 5 #[.int .i64 1000000000000000001, .int .i64 0] W fun e w' => e = .returned (.tuple #[.agg #[.int .i64 0, .int .i64 0], .int .i64 2]) ∧ Below W.heap.size W w' :=
  mul_no1 1000000000000000001 0 W (by unfold Fac; omega)
theorem cO7 (W : World) : Calls Tryd.prog 14 #[.int .i64 (-7)] W fun e w' => e = .returned (.agg #[.int .i64 (-1), .int .i64 999999999999999993]) ∧ Below W.heap.size W w' := by
  simpa using of_any (-7) W (by omega) (by omega)
theorem cO4 (W : World) : Calls Tryd.prog 14 #[.int .i64 (-4)] W fun e w' => e = .returned (.agg #[.int .i64 (-1), .int .i64 999999999999999996]) ∧ Below W.heap.size W w' := by
  simpa using of_any (-4) W (by omega) (by omega)
theorem cO1 (W : World) : Calls Tryd.prog 14 #[.int .i64 (-1)] W fun e w' => e = .returned (.agg #[.int .i64 (-1), .int .i64 999999999999999999]) ∧ Below W.heap.size W w' := by
  simpa using of_any (-1) W (by omega) (by omega)
theorem cD (W : World) : Calls Tryd.prog 18 #[.agg #[.int .i64 (-1), .int .i64 999999999999999993], .int .i64 2] W fun e w' => e = .returned (.tuple #[.agg #[.int .i64 (-1), .int .i64 999999999999999996], .int .i64 1, .int .i64 0]) ∧ Below W.heap.size W w' := by
  simpa [dvH, dvL, dvR] using div_ok (-1) 999999999999999993 2 W (by decide) (by unfold Dv; omega)
theorem cI (W : World) : Calls Tryd.prog 16 #[.agg #[.int .i64 (-100), .int .i64 0]] W fun e w' => e = .returned (.tuple #[.int .i64 0, .int .i64 4]) ∧ Below W.heap.size W w' :=
  int_wide (-100) 0 W (by decide) (by unfold Fits; omega)
theorem cIs (W : World) : Calls Tryd.prog 11 #[.agg #[.int .i64 (-100), .int .i64 0]] W fun e w' => e = .returned (.bool true) ∧ Below W.heap.size W w' :=
  is_yes (-100) 0 W (by decide)
theorem cC (W : World) : Calls Tryd.prog 20 #[.agg #[.int .i64 (-100), .int .i64 0], .agg #[.int .i64 3, .int .i64 0]] W fun e w' => e = .returned (.int .i64 (-1)) ∧ Below W.heap.size W w' :=
  cmp_any (-100) 0 3 0 W
theorem txt100 : txtS (-100) 0 = [45, 49, 48, 48, 48, 48, 48, 48, 48, 48, 48, 48, 48, 48, 48, 48, 48, 48, 48, 48, 48, 48] := by
  decide +kernel
theorem cT (W : World) (h : Tab W) : Calls Tryd.prog 22 #[.agg #[.int .i64 (-100), .int .i64 0]] W fun e w' => e = .returned (.string ⟨#[45, 49, 48, 48, 48, 48, 48, 48, 48, 48, 48, 48, 48, 48, 48, 48, 48, 48, 48, 48, 48, 48]⟩) ∧ Below W.heap.size W w' := by
  have := text_neg (-100) 0 W (by decide) (by omega) h
  rw [txt100] at this
  exact this

set_option maxRecDepth 100000 in
set_option maxHeartbeats 4000000 in
theorem widened_any (w : World) (ht : Tab w) :
    Calls Tryd.prog 13 #[] w fun e w' => e = .returned (.bool true) ∧ Below w.heap.size w w' := by
  have HT := Lib.hid ht
  clear ht
  go_enter Tryd.func13, Tryd.ntmps13
  go_wp2_with fail
  (refine (cM1 _).mono ?_; rintro e w1 ⟨rfl, hb1⟩; have hB1 : Below w.heap.size w w1 := (by refine Below.trans ?_ (hb1.mono (by first | omega | (simp; done) | (simp; omega))); (repeat (first | exact Below.refl _ _ | assumption | refine Below.drew ?_ | refine below_drewN ?_ _ | refine Below.setCell ?_ (by first | omega | (simp; done) | (simp; omega)) _ | refine Below.alloc ?_ (by first | omega | (simp; done) | (simp; omega)) _))); have hsz1 : w.heap.size ≤ w1.heap.size := hB1.size)
  go_wp2_with fail
  (refine (cM2 _).mono ?_; rintro e w2 ⟨rfl, hb2⟩; have hB2 : Below w.heap.size w w2 := (by refine Below.trans ?_ (hb2.mono (by first | omega | (simp; done) | (simp; omega))); (repeat (first | exact Below.refl _ _ | assumption | refine Below.drew ?_ | refine below_drewN ?_ _ | refine Below.setCell ?_ (by first | omega | (simp; done) | (simp; omega)) _ | refine Below.alloc ?_ (by first | omega | (simp; done) | (simp; omega)) _))); have hsz2 : w.heap.size ≤ w2.heap.size := hB2.size)
  have a0 : w2.cell? ⟨w1.heap.size, 0, none⟩ = some (.int .i64 3) := keepc hb2 (by simp)
  have a1 : w2.cell? ⟨w1.heap.size, 1, none⟩ = some (.int .i64 0) := keepc hb2 (by simp)
  go_wp2_with fail
  (refine (cO7 _).mono ?_; rintro e w3 ⟨rfl, hb3⟩; have hB3 : Below w.heap.size w w3 := (by refine Below.trans ?_ (hb3.mono (by first | omega | (simp; done) | (simp; omega))); (repeat (first | exact Below.refl _ _ | assumption | refine Below.drew ?_ | refine below_drewN ?_ _ | refine Below.setCell ?_ (by first | omega | (simp; done) | (simp; omega)) _ | refine Below.alloc ?_ (by first | omega | (simp; done) | (simp; omega)) _))); have hsz3 : w.heap.size ≤ w3.heap.size := hB3.size; replace a0 := keepc hb3 (by first | exact a0 | exact keepa a0 | exact keepa (keepa a0) | (simp [go_sem, *]; done)); replace a1 := keepc hb3 (by first | exact a1 | exact keepa a1 | exact keepa (keepa a1) | (simp [go_sem, *]; done)))
  have b0 : w3.cell? ⟨w2.heap.size, 0, none⟩ = some (.int .i64 (-100)) := keepc hb3 (by simp)
  have b1 : w3.cell? ⟨w2.heap.size, 1, none⟩ = some (.int .i64 0) := keepc hb3 (by simp)
  go_wp2_with fail
  (refine (cD _).mono ?_; rintro e w4 ⟨rfl, hb4⟩; have hB4 : Below w.heap.size w w4 := (by refine Below.trans ?_ (hb4.mono (by first | omega | (simp; done) | (simp; omega))); (repeat (first | exact Below.refl _ _ | assumption | refine Below.drew ?_ | refine below_drewN ?_ _ | refine Below.setCell ?_ (by first | omega | (simp; done) | (simp; omega)) _ | refine Below.alloc ?_ (by first | omega | (simp; done) | (simp; omega)) _))); have hsz4 : w.heap.size ≤ w4.heap.size := hB4.size; replace a0 := keepc hb4 (by first | exact a0 | exact keepa a0 | exact keepa (keepa a0) | (simp [go_sem, *]; done)); replace a1 := keepc hb4 (by first | exact a1 | exact keepa a1 | exact keepa (keepa a1) | (simp [go_sem, *]; done)); replace b0 := keepc hb4 (by first | exact b0 | exact keepa b0 | exact keepa (keepa b0) | (simp [go_sem, *]; done)); replace b1 := keepc hb4 (by first | exact b1 | exact keepa b1 | exact keepa (keepa b1) | (simp [go_sem, *]; done)))
  go_wp2_with fail
  (refine (cM3 _).mono ?_; rintro e w5 ⟨rfl, hb5⟩; have hB5 : Below w.heap.size w w5 := (by refine Below.trans ?_ (hb5.mono (by first | omega | (simp; done) | (simp; omega))); (repeat (first | exact Below.refl _ _ | assumption | refine Below.drew ?_ | refine below_drewN ?_ _ | refine Below.setCell ?_ (by first | omega | (simp; done) | (simp; omega)) _ | refine Below.alloc ?_ (by first | omega | (simp; done) | (simp; omega)) _))); have hsz5 : w.heap.size ≤ w5.heap.size := hB5.size; replace a0 := keepc hb5 (by first | exact a0 | exact keepa a0 | exact keepa (keepa a0) | (simp [go_sem, *]; done)); replace a1 := keepc hb5 (by first | exact a1 | exact keepa a1 | exact keepa (keepa a1) | (simp [go_sem, *]; done)); replace b0 := keepc hb5 (by first | exact b0 | exact keepa b0 | exact keepa (keepa b0) | (simp [go_sem, *]; done)); replace b1 := keepc hb5 (by first | exact b1 | exact keepa b1 | exact keepa (keepa b1) | (simp [go_sem, *]; done)))
  have c0 : w5.cell? ⟨w4.heap.size, 0, none⟩ = some (.int .i64 (-1)) := keepc hb5 (by simp)
  have c1 : w5.cell? ⟨w4.heap.size, 1, none⟩ = some (.int .i64 999999999999999996) := keepc hb5 (by simp)
  replace a0 : (w5.alloc (.cells #[.int .i64 0, .int .i64 0] 24)).cell? ⟨w1.heap.size, 0, none⟩ = some (.int .i64 3) := keepa a0
  replace a1 : (w5.alloc (.cells #[.int .i64 0, .int .i64 0] 24)).cell? ⟨w1.heap.size, 1, none⟩ = some (.int .i64 0) := keepa a1
  replace b0 : (w5.alloc (.cells #[.int .i64 0, .int .i64 0] 24)).cell? ⟨w2.heap.size, 0, none⟩ = some (.int .i64 (-100)) := keepa b0
  replace b1 : (w5.alloc (.cells #[.int .i64 0, .int .i64 0] 24)).cell? ⟨w2.heap.size, 1, none⟩ = some (.int .i64 0) := keepa b1
  replace c0 : (w5.alloc (.cells #[.int .i64 0, .int .i64 0] 24)).cell? ⟨w4.heap.size, 0, none⟩ = some (.int .i64 (-1)) := keepa c0
  replace c1 : (w5.alloc (.cells #[.int .i64 0, .int .i64 0] 24)).cell? ⟨w4.heap.size, 1, none⟩ = some (.int .i64 999999999999999996) := keepa c1
  go_wp2_with fail
  (refine (cI _).mono ?_; rintro e w6 ⟨rfl, hb6⟩; have hB6 : Below w.heap.size w w6 := (by refine Below.trans ?_ (hb6.mono (by first | omega | (simp; done) | (simp; omega))); (repeat (first | exact Below.refl _ _ | assumption | refine Below.drew ?_ | refine below_drewN ?_ _ | refine Below.setCell ?_ (by first | omega | (simp; done) | (simp; omega)) _ | refine Below.alloc ?_ (by first | omega | (simp; done) | (simp; omega)) _))); have hsz6 : w.heap.size ≤ w6.heap.size := hB6.size; replace a0 := keepc hb6 (by first | exact a0 | exact keepa a0 | exact keepa (keepa a0) | (simp [go_sem, *]; done)); replace a1 := keepc hb6 (by first | exact a1 | exact keepa a1 | exact keepa (keepa a1) | (simp [go_sem, *]; done)); replace b0 := keepc hb6 (by first | exact b0 | exact keepa b0 | exact keepa (keepa b0) | (simp [go_sem, *]; done)); replace b1 := keepc hb6 (by first | exact b1 | exact keepa b1 | exact keepa (keepa b1) | (simp [go_sem, *]; done)); replace c0 := keepc hb6 (by first | exact c0 | exact keepa c0 | exact keepa (keepa c0) | (simp [go_sem, *]; done)); replace c1 := keepc hb6 (by first | exact c1 | exact keepa c1 | exact keepa (keepa c1) | (simp [go_sem, *]; done)))
  go_wp2_with fail
  have HB6 := Lib.hid hB6
  clear hB1 hB2 hB3 hB4 hB5 hB6 hb1 hb2 hb3 hb4 hb5 hb6
  go_region_held3 (fun W => Below w.heap.size w W ∧ W.cell? ⟨w1.heap.size, 0, none⟩ = some (.int .i64 3) ∧ W.cell? ⟨w1.heap.size, 1, none⟩ = some (.int .i64 0) ∧ W.cell? ⟨w2.heap.size, 0, none⟩ = some (.int .i64 (-100)) ∧ W.cell? ⟨w2.heap.size, 1, none⟩ = some (.int .i64 0) ∧ W.cell? ⟨w4.heap.size, 0, none⟩ = some (.int .i64 (-1)) ∧ W.cell? ⟨w4.heap.size, 1, none⟩ = some (.int .i64 999999999999999996))
    (first | exact ⟨HB6.out.drew, a0, a1, b0, b1, c0, c1⟩ | (go_split_ands; exact ⟨Below.trans (by assumption) (hb.mono (Below.size (by assumption))), keepc hb (by assumption), keepc hb (by assumption), keepc hb (by assumption), keepc hb (by assumption), keepc hb (by assumption), keepc hb (by assumption)⟩))
    (first
      | (go_at_call 22; refine (cT _ ?_).mono ?_; (go_split_ands; exact HT.out.below (by assumption)); rintro e w7 ⟨rfl, hb⟩)
      | (go_at_call 14; first | ((with_reducible refine (cO4 _).mono ?_); rintro e w7 ⟨rfl, hb⟩) | ((with_reducible refine (cO1 _).mono ?_); rintro e w7 ⟨rfl, hb⟩))
      | (go_at_call 11; refine (cIs _).mono ?_; rintro e w7 ⟨rfl, hb⟩)
      | (go_at_call 20; refine (cC _).mono ?_; rintro e w7 ⟨rfl, hb⟩))
  go_wp2
  go_ret
  go_split_ands
  exact ⟨rfl, by assumption⟩
end Go.Proofs.YtjndajndllimhaaDoor
