/-
  The reference's Mul and Neg.
-/
import Derived.Test.YtjndajndllimhaaDoorRefP
import Derived.Test.YtjndajndllimhaaDoorWideG
namespace Go.Proofs.YtjndajndllimhaaDoor
open Go.RowKit
open Go.BigFrame

/-- What told answers for N. -/
def ToldS (N h l e : Int) : Prop := (fits N = true → h = N / 1000000000000000000 ∧ l = N % 1000000000000000000 ∧ e = 0) ∧ (fits N = false → h = 0 ∧ l = 0 ∧ e = 4)
theorem fac_small {a b : Int} (ka : Fac a) (kb : Fac b) : Small (a * b) := by
  unfold Fac at ka kb
  have := mul_bd (p := 1000000000000000000) (q := 1000000000000000000) (x := a) (y := b) (by omega) (by omega) (by omega) (by omega) (by omega) (by omega)
  exact small_of (by omega)

set_option maxRecDepth 100000 in
set_option maxHeartbeats 1000000 in
theorem rmul_ok (a b : Int) (w : World) (ka : Fac a) (kb : Fac b) (h l x : Int) (ht : ToldS (a * b) h l x) :
    Calls Tryd.prog 6 #[.int .i64 a, .int .i64 b] w fun e w' => e = .returned (.tuple #[.agg #[.int .i64 h, .int .i64 l], .int .i64 x]) ∧ Below w.heap.size w w' := by
  have sp := fac_small ka kb
  have ha : -1000000000000000000 ≤ a ∧ a ≤ 1000000000000000000 := by unfold Fac at ka; omega
  have hb : -1000000000000000000 ≤ b ∧ b ≤ 1000000000000000000 := by unfold Fac at kb; omega
  have sa : Small a := small_of (by omega)
  have sb : Small b := small_of (by omega)
  have CA := Lib.hid (fun W => ofInt_any a W (by omega) (by omega))
  have CB := Lib.hid (fun W => ofInt_any b W (by omega) (by omega))
  have HT := Lib.hid ht
  have SP := Lib.hid (And.intro sp (And.intro sa sb))
  clear ht sp sa sb ka kb
  have d1 : decide (a < -1000000000000000000) = false := by simp; omega
  have d2 : decide (1000000000000000000 < a) = false := by simp; omega
  have d3 : decide (b < -1000000000000000000) = false := by simp; omega
  have d4 : decide (1000000000000000000 < b) = false := by simp; omega
  go_enter Tryd.func6, Tryd.ntmps6
  have B0 : Below w.heap.size w (w.alloc (.cells #[.int .i64 0, .int .i64 0] 24)) := by (repeat (first | exact Below.refl _ _ | assumption | refine Below.drew ?_ | refine below_drewN ?_ _ | refine Below.setCell ?_ (by first | omega | (simp; done) | (simp; omega)) _ | refine Below.alloc ?_ (by first | omega | (simp; done) | (simp; omega)) _))
  have z0 : (w.alloc (.cells #[.int .i64 0, .int .i64 0] 24)).cell? ⟨w.heap.size, 0, none⟩ = some (.int .i64 0) := alloc_cell rfl rfl
  have z1 : (w.alloc (.cells #[.int .i64 0, .int .i64 0] 24)).cell? ⟨w.heap.size, 1, none⟩ = some (.int .i64 0) := alloc_cell rfl rfl
  have fr : ∀ o, (w.alloc (.cells #[.int .i64 0, .int .i64 0] 24)).frozen? ⟨w.heap.size, o, none⟩ = false := fun o => alloc_frozen rfl
  have f0 := fr 0
  have f1 := fr 1
  clear fr
  go_upto_region 3 with fail
  generalize (w.alloc (.cells #[.int .i64 0, .int .i64 0] 24)) = V at *
  go_upto_region 4 with (first
    | (go_at_call 30; (with_reducible refine (CA.out _).mono ?_); rintro e w3 ⟨hb3, v3, rfl, q3⟩; replace f0 := (hb3.frozen (p := ⟨w.heap.size, 0, none⟩) (cell_lt z0)).trans f0; replace f1 := (hb3.frozen (p := ⟨w.heap.size, 1, none⟩) (cell_lt z1)).trans f1; replace z0 := keepc hb3 z0; replace z1 := keepc hb3 z1; replace B0 := B0.trans (hb3.mono B0.size))
    | (go_at_call 30; (with_reducible refine (CB.out _).mono ?_); rintro e w4 ⟨hb4, v4, rfl, q4⟩; replace q3 := q3.keep hb4; replace f0 := (hb4.frozen (p := ⟨w.heap.size, 0, none⟩) (cell_lt z0)).trans f0; replace f1 := (hb4.frozen (p := ⟨w.heap.size, 1, none⟩) (cell_lt z1)).trans f1; replace z0 := keepc hb4 z0; replace z1 := keepc hb4 z1; replace B0 := B0.trans (hb4.mono B0.size))
    | (go_at_call 29; refine (times_num q3 q4 SP.out.2.1 SP.out.2.2).mono ?_; rintro e w5 ⟨hb5, v5, rfl, q5⟩; replace f0 := (hb5.frozen (p := ⟨w.heap.size, 0, none⟩) (cell_lt z0)).trans f0; replace f1 := (hb5.frozen (p := ⟨w.heap.size, 1, none⟩) (cell_lt z1)).trans f1; replace z0 := keepc hb5 z0; replace z1 := keepc hb5 z1; replace B0 := B0.trans (hb5.mono B0.size))
    | (go_at_call 28; refine (told_at q5 SP.out.1 h l x HT.out.1 HT.out.2).mono ?_; rintro e w2 ⟨rfl, hb2⟩; replace f0 := (hb2.frozen (p := ⟨w.heap.size, 0, none⟩) (cell_lt z0)).trans f0; replace f1 := (hb2.frozen (p := ⟨w.heap.size, 1, none⟩) (cell_lt z1)).trans f1; replace z0 := keepc hb2 z0; replace z1 := keepc hb2 z1; have hB2 : Below w.heap.size w w2 := B0.trans (hb2.mono B0.size)))
  clear hb2 hb3 hb4 hb5 q3 q4 q5 B0 HT SP CA CB
  have y0 := keepa (o := .cells #[.int .i64 h, .int .i64 l] 24) z0
  have y1 := keepa (o := .cells #[.int .i64 h, .int .i64 l] 24) z1
  have g0 : (w2.alloc (.cells #[.int .i64 h, .int .i64 l] 24)).frozen? ⟨w.heap.size, 0, none⟩ = false := (Below.frozen ((Below.refl w2.heap.size w2).alloc (Nat.le_refl _) _) (p := ⟨w.heap.size, 0, none⟩) (cell_lt z0)).trans f0
  have g1 : (w2.alloc (.cells #[.int .i64 h, .int .i64 l] 24)).frozen? ⟨w.heap.size, 1, none⟩ = false := (Below.frozen ((Below.refl w2.heap.size w2).alloc (Nat.le_refl _) _) (p := ⟨w.heap.size, 1, none⟩) (cell_lt z1)).trans f1
  have c0 : (w2.alloc (.cells #[.int .i64 h, .int .i64 l] 24)).cell? ⟨w2.heap.size, 0, none⟩ = some (.int .i64 h) := alloc_cell rfl rfl
  have c1 : (w2.alloc (.cells #[.int .i64 h, .int .i64 l] 24)).cell? ⟨w2.heap.size, 1, none⟩ = some (.int .i64 l) := alloc_cell rfl rfl
  have B2 : Below w.heap.size w (w2.alloc (.cells #[.int .i64 h, .int .i64 l] 24)) := hB2.alloc hB2.size _
  generalize (w2.alloc (.cells #[.int .i64 h, .int .i64 l] 24)) = V2 at *
  clear z0 z1 f0 f1 hB2 
  go_wp2
  exact bodyPost_ret (v := .tuple #[.agg #[.int .i64 h, .int .i64 l], .int .i64 x]) (by simp [results, Tryd.results6, go_sem, y0, y1]) rfl ⟨rfl, by (repeat (first | exact Below.refl _ _ | assumption | refine Below.drew ?_ | refine below_drewN ?_ _ | refine Below.setCell ?_ (by first | omega | (simp; done) | (simp; omega)) _ | refine Below.alloc ?_ (by first | omega | (simp; done) | (simp; omega)) _))⟩
end Go.Proofs.YtjndajndllimhaaDoor
