/-
  The reference's Mul where it refuses; Neg.
-/
import Derived.Test.YtjndajndllimhaaDoorRefQ
import Derived.Test.YtjndajndllimhaaDoorRefHo
namespace Go.Proofs.YtjndajndllimhaaDoor
open Go.RowKit
open Go.BigFrame

set_option maxRecDepth 100000 in
set_option maxHeartbeats 1000000 in
theorem rmul_no (a b : Int) (w : World) (k : ¬ (Fac a ∧ Fac b)) :
    Calls Tryd.prog 6 #[.int .i64 a, .int .i64 b] w fun e w' => e = .returned (.tuple #[.agg #[.int .i64 0, .int .i64 0], .int .i64 2]) ∧ Below w.heap.size w w' := by
  have k' : a < -1000000000000000000 ∨ 1000000000000000000 < a ∨ b < -1000000000000000000 ∨ 1000000000000000000 < b := by unfold Fac at k; omega
  clear k
  by_cases h1 : a < -1000000000000000000
  · have d1 : decide (a < -1000000000000000000) = true := by simpa using h1
    clear k' h1
    go_enter Tryd.func6, Tryd.ntmps6
    go_wp2
    exact bodyPost_ret (v := .tuple #[.agg #[.int .i64 0, .int .i64 0], .int .i64 2]) (by simp [results, Tryd.results6, go_sem, *]) rfl ⟨rfl, by (repeat (first | exact Below.refl _ _ | assumption | refine Below.drew ?_ | refine below_drewN ?_ _ | refine Below.setCell ?_ (by first | omega | (simp; done) | (simp; omega)) _ | refine Below.alloc ?_ (by first | omega | (simp; done) | (simp; omega)) _))⟩
  · have d1 : decide (a < -1000000000000000000) = false := by simpa using h1
    by_cases h2 : 1000000000000000000 < a
    · have d2 : decide (1000000000000000000 < a) = true := by simpa using h2
      clear k' h1 h2
      go_enter Tryd.func6, Tryd.ntmps6
      go_wp2
      exact bodyPost_ret (v := .tuple #[.agg #[.int .i64 0, .int .i64 0], .int .i64 2]) (by simp [results, Tryd.results6, go_sem, *]) rfl ⟨rfl, by (repeat (first | exact Below.refl _ _ | assumption | refine Below.drew ?_ | refine below_drewN ?_ _ | refine Below.setCell ?_ (by first | omega | (simp; done) | (simp; omega)) _ | refine Below.alloc ?_ (by first | omega | (simp; done) | (simp; omega)) _))⟩
    · have d2 : decide (1000000000000000000 < a) = false := by simpa using h2
      by_cases h3 : b < -1000000000000000000
      · have d3 : decide (b < -1000000000000000000) = true := by simpa using h3
        clear k' h1 h2 h3
        go_enter Tryd.func6, Tryd.ntmps6
        go_wp2
        exact bodyPost_ret (v := .tuple #[.agg #[.int .i64 0, .int .i64 0], .int .i64 2]) (by simp [results, Tryd.results6, go_sem, *]) rfl ⟨rfl, by (repeat (first | exact Below.refl _ _ | assumption | refine Below.drew ?_ | refine below_drewN ?_ _ | refine Below.setCell ?_ (by first | omega | (simp; done) | (simp; omega)) _ | refine Below.alloc ?_ (by first | omega | (simp; done) | (simp; omega)) _))⟩
      · have d3 : decide (b < -1000000000000000000) = false := by simpa using h3
        have d4 : decide (1000000000000000000 < b) = true := by simp; omega
        clear k' h1 h2 h3
        go_enter Tryd.func6, Tryd.ntmps6
        go_wp2
        exact bodyPost_ret (v := .tuple #[.agg #[.int .i64 0, .int .i64 0], .int .i64 2]) (by simp [results, Tryd.results6, go_sem, *]) rfl ⟨rfl, by (repeat (first | exact Below.refl _ _ | assumption | refine Below.drew ?_ | refine below_drewN ?_ _ | refine Below.setCell ?_ (by first | omega | (simp; done) | (simp; omega)) _ | refine Below.alloc ?_ (by first | omega | (simp; done) | (simp; omega)) _))⟩
set_option maxRecDepth 100000 in
set_option maxHeartbeats 1000000 in
theorem rneg_no (hi lo : Int) (w : World) (k : isB hi lo = false) :
    Calls Tryd.prog 10 #[.agg #[.int .i64 hi, .int .i64 lo]] w fun e w' => e = .returned (.tuple #[.agg #[.int .i64 0, .int .i64 0], .int .i64 1]) ∧ Below w.heap.size w w' := by
  go_enter Tryd.func10, Tryd.ntmps10
  have B0 : Below w.heap.size w ((w.alloc (.cells #[.int .i64 hi, .int .i64 lo] 24)).alloc (.cells #[.int .i64 0, .int .i64 0] 24)) := by (repeat (first | exact Below.refl _ _ | assumption | refine Below.drew ?_ | refine below_drewN ?_ _ | refine Below.setCell ?_ (by first | omega | (simp; done) | (simp; omega)) _ | refine Below.alloc ?_ (by first | omega | (simp; done) | (simp; omega)) _))
  have x0 : ((w.alloc (.cells #[.int .i64 hi, .int .i64 lo] 24)).alloc (.cells #[.int .i64 0, .int .i64 0] 24)).cell? ⟨w.heap.size, 0, none⟩ = some (.int .i64 hi) := keepa (alloc_cell rfl rfl)
  have x1 : ((w.alloc (.cells #[.int .i64 hi, .int .i64 lo] 24)).alloc (.cells #[.int .i64 0, .int .i64 0] 24)).cell? ⟨w.heap.size, 1, none⟩ = some (.int .i64 lo) := keepa (alloc_cell rfl rfl)
  have z0 : ((w.alloc (.cells #[.int .i64 hi, .int .i64 lo] 24)).alloc (.cells #[.int .i64 0, .int .i64 0] 24)).cell? ⟨w.heap.size + 1, 0, none⟩ = some (.int .i64 0) := alloc_cell (by simp) rfl
  have z1 : ((w.alloc (.cells #[.int .i64 hi, .int .i64 lo] 24)).alloc (.cells #[.int .i64 0, .int .i64 0] 24)).cell? ⟨w.heap.size + 1, 1, none⟩ = some (.int .i64 0) := alloc_cell (by simp) rfl
  have fr : ∀ o, ((w.alloc (.cells #[.int .i64 hi, .int .i64 lo] 24)).alloc (.cells #[.int .i64 0, .int .i64 0] 24)).frozen? ⟨w.heap.size + 1, o, none⟩ = false := fun o => alloc_frozen (by simp)
  have f0 := fr 0
  have f1 := fr 1
  clear fr
  go_upto_region 1 with fail
  generalize ((w.alloc (.cells #[.int .i64 hi, .int .i64 lo] 24)).alloc (.cells #[.int .i64 0, .int .i64 0] 24)) = V at *
  go_wp2_with (go_at_call 12; refine (ris_any hi lo _).mono ?_; rintro e w1 ⟨rfl, hb1⟩; rw [k]; replace f0 := (hb1.frozen (p := ⟨w.heap.size + 1, 0, none⟩) (cell_lt z0)).trans f0; replace f1 := (hb1.frozen (p := ⟨w.heap.size + 1, 1, none⟩) (cell_lt z1)).trans f1; replace z0 := keepc hb1 z0; replace z1 := keepc hb1 z1; replace x0 := keepc hb1 x0; replace x1 := keepc hb1 x1; replace B0 := B0.trans (hb1.mono B0.size))
  exact bodyPost_ret (v := .tuple #[.agg #[.int .i64 0, .int .i64 0], .int .i64 1]) (by simp [results, Tryd.results10, go_sem, z0, z1]) rfl ⟨rfl, by (repeat (first | exact Below.refl _ _ | assumption | refine Below.drew ?_ | refine below_drewN ?_ _ | refine Below.setCell ?_ (by first | omega | (simp; done) | (simp; omega)) _ | refine Below.alloc ?_ (by first | omega | (simp; done) | (simp; omega)) _))⟩
set_option maxRecDepth 100000 in
set_option maxHeartbeats 1000000 in
theorem rneg_ok (hi lo : Int) (w : World) (k : Rt hi lo) (h l x : Int) (ht : ToldS (-(hi * 1000000000000000000 + lo)) h l x) :
    Calls Tryd.prog 10 #[.agg #[.int .i64 hi, .int .i64 lo]] w fun e w' => e = .returned (.tuple #[.agg #[.int .i64 h, .int .i64 l], .int .i64 x]) ∧ Below w.heap.size w w' := by
  have kb : isB hi lo = true := decide_eq_true k
  have sn : Small (-(hi * 1000000000000000000 + lo)) := small_of (by unfold Rt at k; omega)
  have K := Lib.hid k
  have HT := Lib.hid ht
  clear k ht
  go_enter Tryd.func10, Tryd.ntmps10
  have B0 : Below w.heap.size w ((w.alloc (.cells #[.int .i64 hi, .int .i64 lo] 24)).alloc (.cells #[.int .i64 0, .int .i64 0] 24)) := by (repeat (first | exact Below.refl _ _ | assumption | refine Below.drew ?_ | refine below_drewN ?_ _ | refine Below.setCell ?_ (by first | omega | (simp; done) | (simp; omega)) _ | refine Below.alloc ?_ (by first | omega | (simp; done) | (simp; omega)) _))
  have x0 : ((w.alloc (.cells #[.int .i64 hi, .int .i64 lo] 24)).alloc (.cells #[.int .i64 0, .int .i64 0] 24)).cell? ⟨w.heap.size, 0, none⟩ = some (.int .i64 hi) := keepa (alloc_cell rfl rfl)
  have x1 : ((w.alloc (.cells #[.int .i64 hi, .int .i64 lo] 24)).alloc (.cells #[.int .i64 0, .int .i64 0] 24)).cell? ⟨w.heap.size, 1, none⟩ = some (.int .i64 lo) := keepa (alloc_cell rfl rfl)
  have z0 : ((w.alloc (.cells #[.int .i64 hi, .int .i64 lo] 24)).alloc (.cells #[.int .i64 0, .int .i64 0] 24)).cell? ⟨w.heap.size + 1, 0, none⟩ = some (.int .i64 0) := alloc_cell (by simp) rfl
  have z1 : ((w.alloc (.cells #[.int .i64 hi, .int .i64 lo] 24)).alloc (.cells #[.int .i64 0, .int .i64 0] 24)).cell? ⟨w.heap.size + 1, 1, none⟩ = some (.int .i64 0) := alloc_cell (by simp) rfl
  have fr : ∀ o, ((w.alloc (.cells #[.int .i64 hi, .int .i64 lo] 24)).alloc (.cells #[.int .i64 0, .int .i64 0] 24)).frozen? ⟨w.heap.size + 1, o, none⟩ = false := fun o => alloc_frozen (by simp)
  have f0 := fr 0
  have f1 := fr 1
  clear fr
  go_upto_region 1 with fail
  generalize ((w.alloc (.cells #[.int .i64 hi, .int .i64 lo] 24)).alloc (.cells #[.int .i64 0, .int .i64 0] 24)) = V at *
  go_upto_region 3 with (go_at_call 12; refine (ris_any hi lo _).mono ?_; rintro e w1 ⟨rfl, hb1⟩; rw [kb]; replace f0 := (hb1.frozen (p := ⟨w.heap.size + 1, 0, none⟩) (cell_lt z0)).trans f0; replace f1 := (hb1.frozen (p := ⟨w.heap.size + 1, 1, none⟩) (cell_lt z1)).trans f1; replace z0 := keepc hb1 z0; replace z1 := keepc hb1 z1; replace x0 := keepc hb1 x0; replace x1 := keepc hb1 x1; replace B0 := B0.trans (hb1.mono B0.size))
  go_upto_region 4 with (first
    | (go_at_call 32; refine (number_any hi lo _ K.out).mono ?_; rintro e w3 ⟨hb3, v3, rfl, q3⟩; replace f0 := (hb3.frozen (p := ⟨w.heap.size + 1, 0, none⟩) (cell_lt z0)).trans f0; replace f1 := (hb3.frozen (p := ⟨w.heap.size + 1, 1, none⟩) (cell_lt z1)).trans f1; replace z0 := keepc hb3 z0; replace z1 := keepc hb3 z1; replace B0 := B0.trans (hb3.mono B0.size))
    | (go_at_call 33; refine (other_any q3).mono ?_; rintro e w4 ⟨hb4, v4, rfl, q4⟩; replace f0 := (hb4.frozen (p := ⟨w.heap.size + 1, 0, none⟩) (cell_lt z0)).trans f0; replace f1 := (hb4.frozen (p := ⟨w.heap.size + 1, 1, none⟩) (cell_lt z1)).trans f1; replace z0 := keepc hb4 z0; replace z1 := keepc hb4 z1; replace B0 := B0.trans (hb4.mono B0.size))
    | (go_at_call 28; refine (told_at q4 sn h l x HT.out.1 HT.out.2).mono ?_; rintro e w2 ⟨rfl, hb2⟩; replace f0 := (hb2.frozen (p := ⟨w.heap.size + 1, 0, none⟩) (cell_lt z0)).trans f0; replace f1 := (hb2.frozen (p := ⟨w.heap.size + 1, 1, none⟩) (cell_lt z1)).trans f1; replace z0 := keepc hb2 z0; replace z1 := keepc hb2 z1; have hB2 : Below w.heap.size w w2 := B0.trans (hb2.mono B0.size)))
  clear hb1 hb2 hb3 hb4 q3 q4 B0 HT sn K x0 x1
  have y0 := keepa (o := .cells #[.int .i64 h, .int .i64 l] 24) z0
  have y1 := keepa (o := .cells #[.int .i64 h, .int .i64 l] 24) z1
  have g0 : (w2.alloc (.cells #[.int .i64 h, .int .i64 l] 24)).frozen? ⟨w.heap.size + 1, 0, none⟩ = false := (Below.frozen ((Below.refl w2.heap.size w2).alloc (Nat.le_refl _) _) (p := ⟨w.heap.size + 1, 0, none⟩) (cell_lt z0)).trans f0
  have g1 : (w2.alloc (.cells #[.int .i64 h, .int .i64 l] 24)).frozen? ⟨w.heap.size + 1, 1, none⟩ = false := (Below.frozen ((Below.refl w2.heap.size w2).alloc (Nat.le_refl _) _) (p := ⟨w.heap.size + 1, 1, none⟩) (cell_lt z1)).trans f1
  have c0 : (w2.alloc (.cells #[.int .i64 h, .int .i64 l] 24)).cell? ⟨w2.heap.size, 0, none⟩ = some (.int .i64 h) := alloc_cell rfl rfl
  have c1 : (w2.alloc (.cells #[.int .i64 h, .int .i64 l] 24)).cell? ⟨w2.heap.size, 1, none⟩ = some (.int .i64 l) := alloc_cell rfl rfl
  have B2 : Below w.heap.size w (w2.alloc (.cells #[.int .i64 h, .int .i64 l] 24)) := hB2.alloc hB2.size _
  generalize (w2.alloc (.cells #[.int .i64 h, .int .i64 l] 24)) = V2 at *
  clear z0 z1 f0 f1 hB2 
  go_wp2
  exact bodyPost_ret (v := .tuple #[.agg #[.int .i64 h, .int .i64 l], .int .i64 x]) (by simp [results, Tryd.results10, go_sem, y0, y1]) rfl ⟨rfl, by (repeat (first | exact Below.refl _ _ | assumption | refine Below.drew ?_ | refine below_drewN ?_ _ | refine Below.setCell ?_ (by first | omega | (simp; done) | (simp; omega)) _ | refine Below.alloc ?_ (by first | omega | (simp; done) | (simp; omega)) _))⟩
end Go.Proofs.YtjndajndllimhaaDoor
