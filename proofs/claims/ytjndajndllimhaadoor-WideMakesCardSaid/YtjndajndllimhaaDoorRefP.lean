/-
  The reference's Of, Mul, Neg.
-/
import Derived.Test.YtjndajndllimhaaDoorRefO
namespace Go.Proofs.YtjndajndllimhaaDoor
open Go.RowKit
open Go.BigFrame

theorem fits_int {n : Int} (h1 : -9223372036854775808 ≤ n) (h2 : n ≤ 9223372036854775807) : fits n = true := by
  unfold fits isB
  rw [decide_eq_true]
  unfold Rt
  omega
set_option maxRecDepth 100000 in
set_option maxHeartbeats 1000000 in
theorem rof_any (n : Int) (w : World) (h1 : -9223372036854775808 ≤ n) (h2 : n ≤ 9223372036854775807) :
    Calls Tryd.prog 15 #[.int .i64 n] w fun e w' => e = .returned (.agg #[.int .i64 (n / 1000000000000000000), .int .i64 (n % 1000000000000000000)]) ∧ Below w.heap.size w w' := by
  have sn : Small n := small_of (by omega)
  have fn := fits_int h1 h2
  go_enter Tryd.func15, Tryd.ntmps15
  have B0 : Below w.heap.size w (w.alloc (.cells #[.int .i64 0, .int .i64 0] 24)) := by (repeat (first | exact Below.refl _ _ | assumption | refine Below.drew ?_ | refine below_drewN ?_ _ | refine Below.setCell ?_ (by first | omega | (simp; done) | (simp; omega)) _ | refine Below.alloc ?_ (by first | omega | (simp; done) | (simp; omega)) _))
  have z0 : (w.alloc (.cells #[.int .i64 0, .int .i64 0] 24)).cell? ⟨w.heap.size, 0, none⟩ = some (.int .i64 0) := alloc_cell rfl rfl
  have z1 : (w.alloc (.cells #[.int .i64 0, .int .i64 0] 24)).cell? ⟨w.heap.size, 1, none⟩ = some (.int .i64 0) := alloc_cell rfl rfl
  have fr : ∀ o, (w.alloc (.cells #[.int .i64 0, .int .i64 0] 24)).frozen? ⟨w.heap.size, o, none⟩ = false := fun o => alloc_frozen rfl
  have f0 := fr 0
  have f1 := fr 1
  clear fr
  go_upto_region 2 with (first
    | (go_at_call 30; refine (ofInt_any n _ h1 h2).mono ?_; rintro e w1 ⟨hb1, v1, rfl, q1⟩; replace f0 := (hb1.frozen (p := ⟨w.heap.size, 0, none⟩) (cell_lt z0)).trans f0; replace f1 := (hb1.frozen (p := ⟨w.heap.size, 1, none⟩) (cell_lt z1)).trans f1; replace z0 := keepc hb1 z0; replace z1 := keepc hb1 z1; replace B0 := B0.trans (hb1.mono B0.size))
    | (go_at_call 34; refine (wide_any q1 sn).mono ?_; rintro e w2 ⟨hb2, h, l, r, rfl, hw⟩; replace f0 := (hb2.frozen (p := ⟨w.heap.size, 0, none⟩) (cell_lt z0)).trans f0; replace f1 := (hb2.frozen (p := ⟨w.heap.size, 1, none⟩) (cell_lt z1)).trans f1; replace z0 := keepc hb2 z0; replace z1 := keepc hb2 z1; have hB2 : Below w.heap.size w w2 := B0.trans (hb2.mono B0.size)))
  have HW := Lib.hid (hw.2 fn)
  clear hw hb1 hb2 q1 B0 fn sn
  have y0 := keepa (o := .cells #[.int .i64 h, .int .i64 l] 24) z0
  have y1 := keepa (o := .cells #[.int .i64 h, .int .i64 l] 24) z1
  have g0 : (w2.alloc (.cells #[.int .i64 h, .int .i64 l] 24)).frozen? ⟨w.heap.size, 0, none⟩ = false := (Below.frozen ((Below.refl w2.heap.size w2).alloc (Nat.le_refl _) _) (p := ⟨w.heap.size, 0, none⟩) (cell_lt z0)).trans f0
  have g1 : (w2.alloc (.cells #[.int .i64 h, .int .i64 l] 24)).frozen? ⟨w.heap.size, 1, none⟩ = false := (Below.frozen ((Below.refl w2.heap.size w2).alloc (Nat.le_refl _) _) (p := ⟨w.heap.size, 1, none⟩) (cell_lt z1)).trans f1
  have c0 : (w2.alloc (.cells #[.int .i64 h, .int .i64 l] 24)).cell? ⟨w2.heap.size, 0, none⟩ = some (.int .i64 h) := alloc_cell rfl rfl
  have c1 : (w2.alloc (.cells #[.int .i64 h, .int .i64 l] 24)).cell? ⟨w2.heap.size, 1, none⟩ = some (.int .i64 l) := alloc_cell rfl rfl
  have B2 : Below w.heap.size w (w2.alloc (.cells #[.int .i64 h, .int .i64 l] 24)) := hB2.alloc hB2.size _
  generalize (w2.alloc (.cells #[.int .i64 h, .int .i64 l] 24)) = V2 at *
  clear z0 z1 f0 f1 hB2 
  go_wp2
  exact bodyPost_ret (v := .agg #[.int .i64 h, .int .i64 l]) (by simp [results, Tryd.results15, go_sem, y0, y1]) rfl ⟨by rw [HW.out.1, HW.out.2], by (repeat (first | exact Below.refl _ _ | assumption | refine Below.drew ?_ | refine below_drewN ?_ _ | refine Below.setCell ?_ (by first | omega | (simp; done) | (simp; omega)) _ | refine Below.alloc ?_ (by first | omega | (simp; done) | (simp; omega)) _))⟩
end Go.Proofs.YtjndajndllimhaaDoor
