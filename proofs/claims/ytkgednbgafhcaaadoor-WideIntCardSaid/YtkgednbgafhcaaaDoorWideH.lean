/-
  The law WideInt: its walks.
-/
import Derived.Test.YtkgednbgafhcaaaDoorWideG
import Derived.Deep.RegionWith
namespace Go.Proofs.YtkgednbgafhcaaaDoor
open Go.RowKit
attribute [local go_sem ↓] Go.wp_at_zero Go.wp_at_succ

theorem cIntOf (n : Int) (W : World) (h0 : -9223372036854775808 ≤ n) (h1 : n ≤ 9223372036854775807) :
    Calls Tryd.prog 20 #[.agg #[.int .i64 (n / 1000000000000000000), .int .i64 (n % 1000000000000000000)]] W fun e w' => e = .returned (.tuple #[.int .i64 n, .int .i64 0]) ∧ Below W.heap.size W w' := by
  have h := int_ok (n / 1000000000000000000) (n % 1000000000000000000) W (by unfold Rt; omega) (by unfold Fits; omega)
  rw [show n / 1000000000000000000 * 1000000000000000000 + n % 1000000000000000000 = n from by omega] at h
  exact h
theorem cIsOf (n : Int) (W : World) (h0 : -9223372036854775808 ≤ n) (h1 : n ≤ 9223372036854775807) :
    Calls Tryd.prog 15 #[.agg #[.int .i64 (n / 1000000000000000000), .int .i64 (n % 1000000000000000000)]] W fun e w' => e = .returned (.bool true) ∧ Below W.heap.size W w' :=
  is_yes _ _ W (by unfold Rt; omega)
theorem cOmin (W : World) : Calls Tryd.prog 18 #[.int .i64 (-9223372036854775808)] W fun e w' => e = .returned (.agg #[.int .i64 (-10), .int .i64 776627963145224192]) ∧ Below W.heap.size W w' := by
  simpa using of_any (-9223372036854775808) W (by omega) (by omega)
theorem cOmax (W : World) : Calls Tryd.prog 18 #[.int .i64 9223372036854775807] W fun e w' => e = .returned (.agg #[.int .i64 9, .int .i64 223372036854775807]) ∧ Below W.heap.size W w' := by
  simpa using of_any 9223372036854775807 W (by omega) (by omega)
theorem cOfNum (hi lo : Int) (W : World) (h : Rt hi lo) (k : Fits hi lo) :
    Calls Tryd.prog 18 #[.int .i64 (hi * 1000000000000000000 + lo)] W fun e w' => e = .returned (.agg #[.int .i64 hi, .int .i64 lo]) ∧ Below W.heap.size W w' := by
  obtain ⟨b1, b2, b3, b4⟩ := h
  have h := of_any (hi * 1000000000000000000 + lo) W k.1 k.2
  rw [show (hi * 1000000000000000000 + lo) / 1000000000000000000 = hi from by omega, show (hi * 1000000000000000000 + lo) % 1000000000000000000 = lo from by omega] at h
  exact h

set_option maxRecDepth 100000 in
set_option maxHeartbeats 2000000 in
theorem law_int_ok (n hi lo : Int) (w : World) (ht : Tab w) (h0 : -9223372036854775808 ≤ n) (h1 : n ≤ 9223372036854775807) (h : Rt hi lo) (k : Fits hi lo) :
    Calls Tryd.prog 8 #[.int .i64 n, .agg #[.int .i64 hi, .int .i64 lo]] w fun e w' => e = .returned (.bool true) ∧ Below w.heap.size w w' := by
  have HT := Lib.hid ht
  have CI := Lib.hid (fun W : World => int_ok hi lo W h k)
  have CO := Lib.hid (fun W : World => cOfNum hi lo W h k)
  clear ht h k
  generalize hi * 1000000000000000000 + lo = m at *
  go_enter Tryd.func8, Tryd.ntmps8
  go_wp2_with fail
  (refine (of_any _ _ h0 h1).mono ?_; rintro e w1 ⟨rfl, hb1⟩; have hB1 : Below w.heap.size w w1 := (by refine Below.trans ?_ (hb1.mono (by first | omega | (simp; done) | (simp; omega))); (repeat (first | exact Below.refl _ _ | assumption | refine Below.drew ?_ | refine below_drewN ?_ _ | refine Below.setCell ?_ (by first | omega | (simp; done) | (simp; omega)) _ | refine Below.alloc ?_ (by first | omega | (simp; done) | (simp; omega)) _))); have hsz1 : w.heap.size ≤ w1.heap.size := hB1.size)
  have a0 : w1.cell? ⟨w.heap.size, 0, none⟩ = some (.int .i64 hi) := keepc hb1 (by simp)
  have a1 : w1.cell? ⟨w.heap.size, 1, none⟩ = some (.int .i64 lo) := keepc hb1 (by simp)
  go_wp2_with fail
  (refine (cIntOf _ _ h0 h1).mono ?_; rintro e w2 ⟨rfl, hb2⟩; have hB2 : Below w.heap.size w w2 := (by refine Below.trans ?_ (hb2.mono (by first | omega | (simp; done) | (simp; omega))); (repeat (first | exact Below.refl _ _ | assumption | refine Below.drew ?_ | refine below_drewN ?_ _ | refine Below.setCell ?_ (by first | omega | (simp; done) | (simp; omega)) _ | refine Below.alloc ?_ (by first | omega | (simp; done) | (simp; omega)) _))); have hsz2 : w.heap.size ≤ w2.heap.size := hB2.size; replace a0 := keepc hb2 (by first | exact a0 | exact keepa a0 | exact keepa (keepa a0) | (simp [go_sem, *]; done)); replace a1 := keepc hb2 (by first | exact a1 | exact keepa a1 | exact keepa (keepa a1) | (simp [go_sem, *]; done)))
  go_wp2_with fail
  (refine (of_any _ _ h0 h1).mono ?_; rintro e w3 ⟨rfl, hb3⟩; have hB3 : Below w.heap.size w w3 := (by refine Below.trans ?_ (hb3.mono (by first | omega | (simp; done) | (simp; omega))); (repeat (first | exact Below.refl _ _ | assumption | refine Below.drew ?_ | refine below_drewN ?_ _ | refine Below.setCell ?_ (by first | omega | (simp; done) | (simp; omega)) _ | refine Below.alloc ?_ (by first | omega | (simp; done) | (simp; omega)) _))); have hsz3 : w.heap.size ≤ w3.heap.size := hB3.size; replace a0 := keepc hb3 (by first | exact a0 | exact keepa a0 | exact keepa (keepa a0) | (simp [go_sem, *]; done)); replace a1 := keepc hb3 (by first | exact a1 | exact keepa a1 | exact keepa (keepa a1) | (simp [go_sem, *]; done)))
  go_wp2_with fail
  (refine (cIsOf _ _ h0 h1).mono ?_; rintro e w4 ⟨rfl, hb4⟩; have hB4 : Below w.heap.size w w4 := (by refine Below.trans ?_ (hb4.mono (by first | omega | (simp; done) | (simp; omega))); (repeat (first | exact Below.refl _ _ | assumption | refine Below.drew ?_ | refine below_drewN ?_ _ | refine Below.setCell ?_ (by first | omega | (simp; done) | (simp; omega)) _ | refine Below.alloc ?_ (by first | omega | (simp; done) | (simp; omega)) _))); have hsz4 : w.heap.size ≤ w4.heap.size := hB4.size; replace a0 := keepc hb4 (by first | exact a0 | exact keepa a0 | exact keepa (keepa a0) | (simp [go_sem, *]; done)); replace a1 := keepc hb4 (by first | exact a1 | exact keepa a1 | exact keepa (keepa a1) | (simp [go_sem, *]; done)))
  go_wp2_with fail
  (refine (CI.out _).mono ?_; rintro e w5 ⟨rfl, hb5⟩; have hB5 : Below w.heap.size w w5 := (by refine Below.trans ?_ (hb5.mono (by first | omega | (simp; done) | (simp; omega))); (repeat (first | exact Below.refl _ _ | assumption | refine Below.drew ?_ | refine below_drewN ?_ _ | refine Below.setCell ?_ (by first | omega | (simp; done) | (simp; omega)) _ | refine Below.alloc ?_ (by first | omega | (simp; done) | (simp; omega)) _))); have hsz5 : w.heap.size ≤ w5.heap.size := hB5.size; replace a0 := keepc hb5 (by first | exact a0 | exact keepa a0 | exact keepa (keepa a0) | (simp [go_sem, *]; done)); replace a1 := keepc hb5 (by first | exact a1 | exact keepa a1 | exact keepa (keepa a1) | (simp [go_sem, *]; done)))
  go_wp2_with fail
  have HB5 := Lib.hid hB5
  clear hB1 hB2 hB3 hB4 hB5 hb1 hb2 hb3 hb4 hb5
  go_region_held3 (fun W => Below w.heap.size w W ∧ W.cell? ⟨w.heap.size, 0, none⟩ = some (.int .i64 hi) ∧ W.cell? ⟨w.heap.size, 1, none⟩ = some (.int .i64 lo))
    (first | exact ⟨HB5.out.drew, a0, a1⟩ | (go_split_ands; exact ⟨by assumption, by assumption, by assumption⟩) | (go_split_ands; exact ⟨Below.trans (by assumption) (hb.mono (Below.size (by assumption))), keepc hb (by assumption), keepc hb (by assumption)⟩))
    (first
      | (go_at_call 17; refine (widened_any _ ?_).mono ?_; (go_split_ands; exact HT.out.below (by assumption)); rintro e w7 ⟨rfl, hb⟩)
      | (go_at_call 18; refine (CO.out _).mono ?_; rintro e w7 ⟨rfl, hb⟩))
  go_wp2
  go_ret
  go_split_ands
  exact ⟨rfl, by assumption⟩
set_option maxRecDepth 100000 in
set_option maxHeartbeats 4000000 in
theorem law_int_arg (n hi lo : Int) (w : World) (ht : Tab w) (h0 : -9223372036854775808 ≤ n) (h1 : n ≤ 9223372036854775807) (h : ¬ Rt hi lo) :
    Calls Tryd.prog 8 #[.int .i64 n, .agg #[.int .i64 hi, .int .i64 lo]] w fun e w' => e = .returned (.bool true) ∧ Below w.heap.size w w' := by
  have HT := Lib.hid ht
  have CI := Lib.hid (fun W : World => int_arg hi lo W h)
  have cIs := Lib.hid (fun W : World => is_no hi lo W h)
  clear ht h
  go_enter Tryd.func8, Tryd.ntmps8
  go_wp2_with fail
  (refine (of_any _ _ h0 h1).mono ?_; rintro e w1 ⟨rfl, hb1⟩; have hB1 : Below w.heap.size w w1 := (by refine Below.trans ?_ (hb1.mono (by first | omega | (simp; done) | (simp; omega))); (repeat (first | exact Below.refl _ _ | assumption | refine Below.drew ?_ | refine below_drewN ?_ _ | refine Below.setCell ?_ (by first | omega | (simp; done) | (simp; omega)) _ | refine Below.alloc ?_ (by first | omega | (simp; done) | (simp; omega)) _))); have hsz1 : w.heap.size ≤ w1.heap.size := hB1.size)
  have a0 : w1.cell? ⟨w.heap.size, 0, none⟩ = some (.int .i64 hi) := keepc hb1 (by simp)
  have a1 : w1.cell? ⟨w.heap.size, 1, none⟩ = some (.int .i64 lo) := keepc hb1 (by simp)
  go_wp2_with fail
  (refine (cIntOf _ _ h0 h1).mono ?_; rintro e w2 ⟨rfl, hb2⟩; have hB2 : Below w.heap.size w w2 := (by refine Below.trans ?_ (hb2.mono (by first | omega | (simp; done) | (simp; omega))); (repeat (first | exact Below.refl _ _ | assumption | refine Below.drew ?_ | refine below_drewN ?_ _ | refine Below.setCell ?_ (by first | omega | (simp; done) | (simp; omega)) _ | refine Below.alloc ?_ (by first | omega | (simp; done) | (simp; omega)) _))); have hsz2 : w.heap.size ≤ w2.heap.size := hB2.size; replace a0 := keepc hb2 (by first | exact a0 | exact keepa a0 | exact keepa (keepa a0) | (simp [go_sem, *]; done)); replace a1 := keepc hb2 (by first | exact a1 | exact keepa a1 | exact keepa (keepa a1) | (simp [go_sem, *]; done)))
  go_wp2_with fail
  (refine (of_any _ _ h0 h1).mono ?_; rintro e w3 ⟨rfl, hb3⟩; have hB3 : Below w.heap.size w w3 := (by refine Below.trans ?_ (hb3.mono (by first | omega | (simp; done) | (simp; omega))); (repeat (first | exact Below.refl _ _ | assumption | refine Below.drew ?_ | refine below_drewN ?_ _ | refine Below.setCell ?_ (by first | omega | (simp; done) | (simp; omega)) _ | refine Below.alloc ?_ (by first | omega | (simp; done) | (simp; omega)) _))); have hsz3 : w.heap.size ≤ w3.heap.size := hB3.size; replace a0 := keepc hb3 (by first | exact a0 | exact keepa a0 | exact keepa (keepa a0) | (simp [go_sem, *]; done)); replace a1 := keepc hb3 (by first | exact a1 | exact keepa a1 | exact keepa (keepa a1) | (simp [go_sem, *]; done)))
  go_wp2_with fail
  (refine (cIsOf _ _ h0 h1).mono ?_; rintro e w4 ⟨rfl, hb4⟩; have hB4 : Below w.heap.size w w4 := (by refine Below.trans ?_ (hb4.mono (by first | omega | (simp; done) | (simp; omega))); (repeat (first | exact Below.refl _ _ | assumption | refine Below.drew ?_ | refine below_drewN ?_ _ | refine Below.setCell ?_ (by first | omega | (simp; done) | (simp; omega)) _ | refine Below.alloc ?_ (by first | omega | (simp; done) | (simp; omega)) _))); have hsz4 : w.heap.size ≤ w4.heap.size := hB4.size; replace a0 := keepc hb4 (by first | exact a0 | exact keepa a0 | exact keepa (keepa a0) | (simp [go_sem, *]; done)); replace a1 := keepc hb4 (by first | exact a1 | exact keepa a1 | exact keepa (keepa a1) | (simp [go_sem, *]; done)))
  go_wp2_with fail
  (refine (CI.out _).mono ?_; rintro e w5 ⟨rfl, hb5⟩; have hB5 : Below w.heap.size w w5 := (by refine Below.trans ?_ (hb5.mono (by first | omega | (simp; done) | (simp; omega))); (repeat (first | exact Below.refl _ _ | assumption | refine Below.drew ?_ | refine below_drewN ?_ _ | refine Below.setCell ?_ (by first | omega | (simp; done) | (simp; omega)) _ | refine Below.alloc ?_ (by first | omega | (simp; done) | (simp; omega)) _))); have hsz5 : w.heap.size ≤ w5.heap.size := hB5.size; replace a0 := keepc hb5 (by first | exact a0 | exact keepa a0 | exact keepa (keepa a0) | (simp [go_sem, *]; done)); replace a1 := keepc hb5 (by first | exact a1 | exact keepa a1 | exact keepa (keepa a1) | (simp [go_sem, *]; done)))
  go_wp2_with fail
  have HB5 := Lib.hid hB5
  clear hB1 hB2 hB3 hB4 hB5 hb1 hb2 hb3 hb4 hb5
  go_region_with (first
      | (go_at_call 17; refine (widened_any _ (HT.out.below (HB5.out.drew))).mono ?_; rintro e w7 ⟨rfl, hb⟩; replace a0 := keepc hb a0; replace a1 := keepc hb a1; have HBn : Below w.heap.size w w7 := (by first | exact HB5.out.trans (hb.mono HB5.out.size) | exact HB5.out.drew.trans (hb.mono HB5.out.size)); replace HB5 := Lib.hid HBn; clear hb HBn)
      | (go_at_call 15; refine (cIs.out _).mono ?_; rintro e w7 ⟨rfl, hb⟩; replace a0 := keepc hb a0; replace a1 := keepc hb a1; have HBn : Below w.heap.size w w7 := (by first | exact HB5.out.trans (hb.mono HB5.out.size) | exact HB5.out.drew.trans (hb.mono HB5.out.size)); replace HB5 := Lib.hid HBn; clear hb HBn))
  all_goals go_wp2
  all_goals go_ret
  all_goals exact ⟨rfl, HB5.out⟩

set_option maxRecDepth 100000 in
set_option maxHeartbeats 4000000 in
theorem law_int_less (n hi lo : Int) (w : World) (ht : Tab w) (h0 : -9223372036854775808 ≤ n) (h1 : n ≤ 9223372036854775807) (h : Rt hi lo) (k : hi * 1000000000000000000 + lo < -9223372036854775808) :
    Calls Tryd.prog 8 #[.int .i64 n, .agg #[.int .i64 hi, .int .i64 lo]] w fun e w' => e = .returned (.bool true) ∧ Below w.heap.size w w' := by
  have HT := Lib.hid ht
  have CI := Lib.hid (fun W : World => int_wide hi lo W h (by unfold Fits; omega))
  have cIs := Lib.hid (fun W : World => is_yes hi lo W h)
  have cC1 := Lib.hid (fun W : World => (cmpI_lt (ah := hi) (al := lo) (bh := -10) (bl := 776627963145224192) (by obtain ⟨_, _, _, _⟩ := h; omega)) ▸ cmp_any hi lo (-10) 776627963145224192 W)
  have cC2 := cC1
  clear ht h k
  go_enter Tryd.func8, Tryd.ntmps8
  go_wp2_with fail
  (refine (of_any _ _ h0 h1).mono ?_; rintro e w1 ⟨rfl, hb1⟩; have hB1 : Below w.heap.size w w1 := (by refine Below.trans ?_ (hb1.mono (by first | omega | (simp; done) | (simp; omega))); (repeat (first | exact Below.refl _ _ | assumption | refine Below.drew ?_ | refine below_drewN ?_ _ | refine Below.setCell ?_ (by first | omega | (simp; done) | (simp; omega)) _ | refine Below.alloc ?_ (by first | omega | (simp; done) | (simp; omega)) _))); have hsz1 : w.heap.size ≤ w1.heap.size := hB1.size)
  have a0 : w1.cell? ⟨w.heap.size, 0, none⟩ = some (.int .i64 hi) := keepc hb1 (by simp)
  have a1 : w1.cell? ⟨w.heap.size, 1, none⟩ = some (.int .i64 lo) := keepc hb1 (by simp)
  go_wp2_with fail
  (refine (cIntOf _ _ h0 h1).mono ?_; rintro e w2 ⟨rfl, hb2⟩; have hB2 : Below w.heap.size w w2 := (by refine Below.trans ?_ (hb2.mono (by first | omega | (simp; done) | (simp; omega))); (repeat (first | exact Below.refl _ _ | assumption | refine Below.drew ?_ | refine below_drewN ?_ _ | refine Below.setCell ?_ (by first | omega | (simp; done) | (simp; omega)) _ | refine Below.alloc ?_ (by first | omega | (simp; done) | (simp; omega)) _))); have hsz2 : w.heap.size ≤ w2.heap.size := hB2.size; replace a0 := keepc hb2 (by first | exact a0 | exact keepa a0 | exact keepa (keepa a0) | (simp [go_sem, *]; done)); replace a1 := keepc hb2 (by first | exact a1 | exact keepa a1 | exact keepa (keepa a1) | (simp [go_sem, *]; done)))
  go_wp2_with fail
  (refine (of_any _ _ h0 h1).mono ?_; rintro e w3 ⟨rfl, hb3⟩; have hB3 : Below w.heap.size w w3 := (by refine Below.trans ?_ (hb3.mono (by first | omega | (simp; done) | (simp; omega))); (repeat (first | exact Below.refl _ _ | assumption | refine Below.drew ?_ | refine below_drewN ?_ _ | refine Below.setCell ?_ (by first | omega | (simp; done) | (simp; omega)) _ | refine Below.alloc ?_ (by first | omega | (simp; done) | (simp; omega)) _))); have hsz3 : w.heap.size ≤ w3.heap.size := hB3.size; replace a0 := keepc hb3 (by first | exact a0 | exact keepa a0 | exact keepa (keepa a0) | (simp [go_sem, *]; done)); replace a1 := keepc hb3 (by first | exact a1 | exact keepa a1 | exact keepa (keepa a1) | (simp [go_sem, *]; done)))
  go_wp2_with fail
  (refine (cIsOf _ _ h0 h1).mono ?_; rintro e w4 ⟨rfl, hb4⟩; have hB4 : Below w.heap.size w w4 := (by refine Below.trans ?_ (hb4.mono (by first | omega | (simp; done) | (simp; omega))); (repeat (first | exact Below.refl _ _ | assumption | refine Below.drew ?_ | refine below_drewN ?_ _ | refine Below.setCell ?_ (by first | omega | (simp; done) | (simp; omega)) _ | refine Below.alloc ?_ (by first | omega | (simp; done) | (simp; omega)) _))); have hsz4 : w.heap.size ≤ w4.heap.size := hB4.size; replace a0 := keepc hb4 (by first | exact a0 | exact keepa a0 | exact keepa (keepa a0) | (simp [go_sem, *]; done)); replace a1 := keepc hb4 (by first | exact a1 | exact keepa a1 | exact keepa (keepa a1) | (simp [go_sem, *]; done)))
  go_wp2_with fail
  (refine (CI.out _).mono ?_; rintro e w5 ⟨rfl, hb5⟩; have hB5 : Below w.heap.size w w5 := (by refine Below.trans ?_ (hb5.mono (by first | omega | (simp; done) | (simp; omega))); (repeat (first | exact Below.refl _ _ | assumption | refine Below.drew ?_ | refine below_drewN ?_ _ | refine Below.setCell ?_ (by first | omega | (simp; done) | (simp; omega)) _ | refine Below.alloc ?_ (by first | omega | (simp; done) | (simp; omega)) _))); have hsz5 : w.heap.size ≤ w5.heap.size := hB5.size; replace a0 := keepc hb5 (by first | exact a0 | exact keepa a0 | exact keepa (keepa a0) | (simp [go_sem, *]; done)); replace a1 := keepc hb5 (by first | exact a1 | exact keepa a1 | exact keepa (keepa a1) | (simp [go_sem, *]; done)))
  go_wp2_with fail
  have HB5 := Lib.hid hB5
  clear hB1 hB2 hB3 hB4 hB5 hb1 hb2 hb3 hb4 hb5
  go_region_with (first
      | (go_at_call 17; refine (widened_any _ (HT.out.below (HB5.out.drew))).mono ?_; rintro e w7 ⟨rfl, hb⟩; replace a0 := keepc hb a0; replace a1 := keepc hb a1; have HBn : Below w.heap.size w w7 := (by first | exact HB5.out.trans (hb.mono HB5.out.size) | exact HB5.out.drew.trans (hb.mono HB5.out.size)); replace HB5 := Lib.hid HBn; clear hb HBn)
      | (go_at_call 15; refine (cIs.out _).mono ?_; rintro e w7 ⟨rfl, hb⟩; replace a0 := keepc hb a0; replace a1 := keepc hb a1; have HBn : Below w.heap.size w w7 := (by first | exact HB5.out.trans (hb.mono HB5.out.size) | exact HB5.out.drew.trans (hb.mono HB5.out.size)); replace HB5 := Lib.hid HBn; clear hb HBn)
      | (go_at_call 18; ((with_reducible refine (cOmin _).mono ?_); rintro e w7 ⟨rfl, hb⟩; replace a0 := keepc hb a0; replace a1 := keepc hb a1; have HBn : Below w.heap.size w w7 := (by first | exact HB5.out.trans (hb.mono HB5.out.size) | exact HB5.out.drew.trans (hb.mono HB5.out.size)); replace HB5 := Lib.hid HBn; clear hb HBn))
      | (go_at_call 24; ((with_reducible refine (cC1.out _).mono ?_); rintro e w7 ⟨rfl, hb⟩; replace a0 := keepc hb a0; replace a1 := keepc hb a1; have HBn : Below w.heap.size w w7 := (by first | exact HB5.out.trans (hb.mono HB5.out.size) | exact HB5.out.drew.trans (hb.mono HB5.out.size)); replace HB5 := Lib.hid HBn; clear hb HBn)))
  all_goals go_wp2
  all_goals go_ret
  all_goals exact ⟨rfl, HB5.out⟩

set_option maxRecDepth 100000 in
set_option maxHeartbeats 4000000 in
theorem law_int_more (n hi lo : Int) (w : World) (ht : Tab w) (h0 : -9223372036854775808 ≤ n) (h1 : n ≤ 9223372036854775807) (h : Rt hi lo) (k : 9223372036854775807 < hi * 1000000000000000000 + lo) :
    Calls Tryd.prog 8 #[.int .i64 n, .agg #[.int .i64 hi, .int .i64 lo]] w fun e w' => e = .returned (.bool true) ∧ Below w.heap.size w w' := by
  have HT := Lib.hid ht
  have CI := Lib.hid (fun W : World => int_wide hi lo W h (by unfold Fits; omega))
  have cIs := Lib.hid (fun W : World => is_yes hi lo W h)
  have cC1 := Lib.hid (fun W : World => (cmpI_gt (ah := hi) (al := lo) (bh := -10) (bl := 776627963145224192) (by obtain ⟨_, _, _, _⟩ := h; omega)) ▸ cmp_any hi lo (-10) 776627963145224192 W)
  have cC2 := Lib.hid (fun W : World => (cmpI_gt (ah := hi) (al := lo) (bh := 9) (bl := 223372036854775807) (by obtain ⟨_, _, _, _⟩ := h; omega)) ▸ cmp_any hi lo 9 223372036854775807 W)
  clear ht h k
  go_enter Tryd.func8, Tryd.ntmps8
  go_wp2_with fail
  (refine (of_any _ _ h0 h1).mono ?_; rintro e w1 ⟨rfl, hb1⟩; have hB1 : Below w.heap.size w w1 := (by refine Below.trans ?_ (hb1.mono (by first | omega | (simp; done) | (simp; omega))); (repeat (first | exact Below.refl _ _ | assumption | refine Below.drew ?_ | refine below_drewN ?_ _ | refine Below.setCell ?_ (by first | omega | (simp; done) | (simp; omega)) _ | refine Below.alloc ?_ (by first | omega | (simp; done) | (simp; omega)) _))); have hsz1 : w.heap.size ≤ w1.heap.size := hB1.size)
  have a0 : w1.cell? ⟨w.heap.size, 0, none⟩ = some (.int .i64 hi) := keepc hb1 (by simp)
  have a1 : w1.cell? ⟨w.heap.size, 1, none⟩ = some (.int .i64 lo) := keepc hb1 (by simp)
  go_wp2_with fail
  (refine (cIntOf _ _ h0 h1).mono ?_; rintro e w2 ⟨rfl, hb2⟩; have hB2 : Below w.heap.size w w2 := (by refine Below.trans ?_ (hb2.mono (by first | omega | (simp; done) | (simp; omega))); (repeat (first | exact Below.refl _ _ | assumption | refine Below.drew ?_ | refine below_drewN ?_ _ | refine Below.setCell ?_ (by first | omega | (simp; done) | (simp; omega)) _ | refine Below.alloc ?_ (by first | omega | (simp; done) | (simp; omega)) _))); have hsz2 : w.heap.size ≤ w2.heap.size := hB2.size; replace a0 := keepc hb2 (by first | exact a0 | exact keepa a0 | exact keepa (keepa a0) | (simp [go_sem, *]; done)); replace a1 := keepc hb2 (by first | exact a1 | exact keepa a1 | exact keepa (keepa a1) | (simp [go_sem, *]; done)))
  go_wp2_with fail
  (refine (of_any _ _ h0 h1).mono ?_; rintro e w3 ⟨rfl, hb3⟩; have hB3 : Below w.heap.size w w3 := (by refine Below.trans ?_ (hb3.mono (by first | omega | (simp; done) | (simp; omega))); (repeat (first | exact Below.refl _ _ | assumption | refine Below.drew ?_ | refine below_drewN ?_ _ | refine Below.setCell ?_ (by first | omega | (simp; done) | (simp; omega)) _ | refine Below.alloc ?_ (by first | omega | (simp; done) | (simp; omega)) _))); have hsz3 : w.heap.size ≤ w3.heap.size := hB3.size; replace a0 := keepc hb3 (by first | exact a0 | exact keepa a0 | exact keepa (keepa a0) | (simp [go_sem, *]; done)); replace a1 := keepc hb3 (by first | exact a1 | exact keepa a1 | exact keepa (keepa a1) | (simp [go_sem, *]; done)))
  go_wp2_with fail
  (refine (cIsOf _ _ h0 h1).mono ?_; rintro e w4 ⟨rfl, hb4⟩; have hB4 : Below w.heap.size w w4 := (by refine Below.trans ?_ (hb4.mono (by first | omega | (simp; done) | (simp; omega))); (repeat (first | exact Below.refl _ _ | assumption | refine Below.drew ?_ | refine below_drewN ?_ _ | refine Below.setCell ?_ (by first | omega | (simp; done) | (simp; omega)) _ | refine Below.alloc ?_ (by first | omega | (simp; done) | (simp; omega)) _))); have hsz4 : w.heap.size ≤ w4.heap.size := hB4.size; replace a0 := keepc hb4 (by first | exact a0 | exact keepa a0 | exact keepa (keepa a0) | (simp [go_sem, *]; done)); replace a1 := keepc hb4 (by first | exact a1 | exact keepa a1 | exact keepa (keepa a1) | (simp [go_sem, *]; done)))
  go_wp2_with fail
  (refine (CI.out _).mono ?_; rintro e w5 ⟨rfl, hb5⟩; have hB5 : Below w.heap.size w w5 := (by refine Below.trans ?_ (hb5.mono (by first | omega | (simp; done) | (simp; omega))); (repeat (first | exact Below.refl _ _ | assumption | refine Below.drew ?_ | refine below_drewN ?_ _ | refine Below.setCell ?_ (by first | omega | (simp; done) | (simp; omega)) _ | refine Below.alloc ?_ (by first | omega | (simp; done) | (simp; omega)) _))); have hsz5 : w.heap.size ≤ w5.heap.size := hB5.size; replace a0 := keepc hb5 (by first | exact a0 | exact keepa a0 | exact keepa (keepa a0) | (simp [go_sem, *]; done)); replace a1 := keepc hb5 (by first | exact a1 | exact keepa a1 | exact keepa (keepa a1) | (simp [go_sem, *]; done)))
  go_wp2_with fail
  have HB5 := Lib.hid hB5
  clear hB1 hB2 hB3 hB4 hB5 hb1 hb2 hb3 hb4 hb5
  go_region_held3 (fun W => Below w.heap.size w W ∧ W.cell? ⟨w.heap.size, 0, none⟩ = some (.int .i64 hi) ∧ W.cell? ⟨w.heap.size, 1, none⟩ = some (.int .i64 lo))
    (first | exact ⟨HB5.out.drew, a0, a1⟩ | (go_split_ands; exact ⟨by assumption, by assumption, by assumption⟩) | (go_split_ands; exact ⟨Below.trans (by assumption) (hb.mono (Below.size (by assumption))), keepc hb (by assumption), keepc hb (by assumption)⟩))
    (first
      | (go_at_call 17; refine (widened_any _ ?_).mono ?_; (go_split_ands; exact HT.out.below (by assumption)); rintro e w7 ⟨rfl, hb⟩)
      | (go_at_call 15; refine (cIs.out _).mono ?_; rintro e w7 ⟨rfl, hb⟩)
      | (go_at_call 18; first | ((with_reducible refine (cOmin _).mono ?_); rintro e w7 ⟨rfl, hb⟩) | ((with_reducible refine (cOmax _).mono ?_); rintro e w7 ⟨rfl, hb⟩))
      | (go_at_call 24; first | ((with_reducible refine (cC1.out _).mono ?_); rintro e w7 ⟨rfl, hb⟩) | ((with_reducible refine (cC2.out _).mono ?_); rintro e w7 ⟨rfl, hb⟩)))
  go_wp2
  go_ret
  go_split_ands
  exact ⟨rfl, by assumption⟩

theorem law_int_any (n hi lo : Int) (w : World) (ht : Tab w) (h0 : -9223372036854775808 ≤ n) (h1 : n ≤ 9223372036854775807) :
    Calls Tryd.prog 8 #[.int .i64 n, .agg #[.int .i64 hi, .int .i64 lo]] w fun e w' => e = .returned (.bool true) ∧ Below w.heap.size w w' := by
  by_cases h : Rt hi lo
  · by_cases k : hi * 1000000000000000000 + lo < -9223372036854775808
    · exact law_int_less n hi lo w ht h0 h1 h k
    · by_cases k2 : 9223372036854775807 < hi * 1000000000000000000 + lo
      · exact law_int_more n hi lo w ht h0 h1 h k2
      · exact law_int_ok n hi lo w ht h0 h1 h ⟨by omega, by omega⟩
  · exact law_int_arg n hi lo w ht h0 h1 h
end Go.Proofs.YtkgednbgafhcaaaDoor
