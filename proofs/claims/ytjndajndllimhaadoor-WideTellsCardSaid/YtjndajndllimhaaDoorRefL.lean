/-
  The reference's Wide and told of any number.
-/
import Derived.Test.YtjndajndllimhaaDoorRefK
namespace Go.Proofs.YtjndajndllimhaaDoor
open Go.RowKit
open Go.BigFrame

set_option maxRecDepth 100000 in
set_option maxHeartbeats 1000000 in
theorem wide_long (s : Bool) (a : Option Addr) (n c : Nat) (D : Nat → Int) (w : World) (ra : RowF w a n c D) (hn : n ≤ 1000000) (h : 37 < n ∨ (n = 37 ∧ 4 < D 36)) :
    Calls Tryd.prog 34 #[.agg #[.bool s, .slice a n c]] w fun e w' => e = .returned (.tuple #[.agg #[.int .i64 0, .int .i64 0], .bool false]) ∧ Below w.heap.size w w' := by
  go_enter Tryd.func34, Tryd.ntmps34
  have B0 : Below w.heap.size w ((w.alloc (.cells #[.bool s, .slice a n c] 51)).alloc (.cells #[.int .i64 0, .int .i64 0] 24)) := by (repeat (first | exact Below.refl _ _ | assumption | refine Below.drew ?_ | refine below_drewN ?_ _ | refine Below.setCell ?_ (by first | omega | (simp; done) | (simp; omega)) _ | refine Below.alloc ?_ (by first | omega | (simp; done) | (simp; omega)) _))
  have x0 : ((w.alloc (.cells #[.bool s, .slice a n c] 51)).alloc (.cells #[.int .i64 0, .int .i64 0] 24)).cell? ⟨w.heap.size, 0, none⟩ = some (.bool s) := keepa (alloc_cell rfl rfl)
  have x1 : ((w.alloc (.cells #[.bool s, .slice a n c] 51)).alloc (.cells #[.int .i64 0, .int .i64 0] 24)).cell? ⟨w.heap.size, 1, none⟩ = some (.slice a n c) := keepa (alloc_cell rfl rfl)
  have z0 : ((w.alloc (.cells #[.bool s, .slice a n c] 51)).alloc (.cells #[.int .i64 0, .int .i64 0] 24)).cell? ⟨w.heap.size + 1, 0, none⟩ = some (.int .i64 0) := alloc_cell (by simp) rfl
  have z1 : ((w.alloc (.cells #[.bool s, .slice a n c] 51)).alloc (.cells #[.int .i64 0, .int .i64 0] 24)).cell? ⟨w.heap.size + 1, 1, none⟩ = some (.int .i64 0) := alloc_cell (by simp) rfl
  have fr : ∀ o, ((w.alloc (.cells #[.bool s, .slice a n c] 51)).alloc (.cells #[.int .i64 0, .int .i64 0] 24)).frozen? ⟨w.heap.size + 1, o, none⟩ = false := fun o => alloc_frozen (by simp)
  go_upto_region 1 with fail
  have f0 := fr 0
  have f1 := fr 1
  have rV := ra.keep B0
  generalize ((w.alloc (.cells #[.bool s, .slice a n c] 51)).alloc (.cells #[.int .i64 0, .int .i64 0] 24)) = V at *
  rcases h with h | ⟨hn37, h4⟩
  · have d37 : decide ((37 : Int) < (n : Int)) = true := by simp; omega
    clear rV ra fr
    go_wp2
    exact bodyPost_ret (v := .tuple #[.agg #[.int .i64 0, .int .i64 0], .bool false]) (by simp [results, Tryd.results34, go_sem, z0, z1]) rfl ⟨rfl, by (repeat (first | exact Below.refl _ _ | assumption | refine Below.drew ?_ | refine below_drewN ?_ _ | refine Below.setCell ?_ (by first | omega | (simp; done) | (simp; omega)) _ | refine Below.alloc ?_ (by first | omega | (simp; done) | (simp; omega)) _))⟩
  · have d37 : decide ((37 : Int) < (n : Int)) = false := by simp; omega
    have q37 : ((n : Int) == 37) = true := by rw [beq_iff_eq]; omega
    have d4 : decide ((4 : Int) < D 36) = true := by simp; omega
    have hn36 : 36 < n := by omega
    obtain ⟨b, off, rfl, hl, hcs⟩ := rV.at hn36
    have hc36 := hcs 36 hn36
    clear rV ra fr hcs
    go_wp2
    exact bodyPost_ret (v := .tuple #[.agg #[.int .i64 0, .int .i64 0], .bool false]) (by simp [results, Tryd.results34, go_sem, z0, z1]) rfl ⟨rfl, by (repeat (first | exact Below.refl _ _ | assumption | refine Below.drew ?_ | refine below_drewN ?_ _ | refine Below.setCell ?_ (by first | omega | (simp; done) | (simp; omega)) _ | refine Below.alloc ?_ (by first | omega | (simp; done) | (simp; omega)) _))⟩

/-- What told says of a number: its Wide where it is right, or ErrWide. -/
def fits (N : Int) : Bool := isB (N / 1000000000000000000) (N % 1000000000000000000)
def wideOf (N : Int) (h l : Int) (r : Bool) : Prop := r = fits N ∧ (fits N = true → h = N / 1000000000000000000 ∧ l = N % 1000000000000000000)
theorem wide_any {w : World} {v : Value} {N : Int} (hv : NumV w v N) (hs : Small N) :
    Calls Tryd.prog 34 #[v] w fun e w' => Below w.heap.size w w' ∧ ∃ h l r, e = .returned (.tuple #[.agg #[.int .i64 h, .int .i64 l], .bool r]) ∧ wideOf N h l r := by
  obtain ⟨a, n, c, D, rfl, ra, hc, da, ta, ea⟩ := hv
  have hn := num_small da ta ea hs
  by_cases h : 37 < n ∨ (n = 37 ∧ 4 < D 36)
  · refine (wide_long _ a n c D w ra (by omega) h).mono ?_
    rintro e w' ⟨rfl, hb⟩
    have big := too_long da ta h
    have hf : fits N = false := by
      unfold fits isB
      rw [decide_eq_false]
      unfold Rt
      omega
    exact ⟨hb, _, _, _, rfl, hf.symm, fun q => by rw [hf] at q; cases q⟩
  · refine (wide_fit _ a n c D w ra da (by omega) (fun e => by omega) N _ _ (side rfl ea) rfl rfl).mono ?_
    rintro e w' ⟨rfl, hb⟩
    exact ⟨hb, _, _, _, rfl, rfl, fun _ => ⟨rfl, rfl⟩⟩

set_option maxRecDepth 100000 in
set_option maxHeartbeats 1000000 in
theorem told_at {w : World} {v : Value} {N : Int} (hv : NumV w v N) (hs : Small N) (h' l' e' : Int) (h1 : fits N = true → h' = N / 1000000000000000000 ∧ l' = N % 1000000000000000000 ∧ e' = 0) (h2 : fits N = false → h' = 0 ∧ l' = 0 ∧ e' = 4) :
    Calls Tryd.prog 28 #[v] w fun e w' => e = .returned (.tuple #[.agg #[.int .i64 h', .int .i64 l'], .int .i64 e']) ∧ Below w.heap.size w w' := by
  have H1 := Lib.hid h1
  have H2 := Lib.hid h2
  clear h1 h2
  have hv' := hv
  obtain ⟨a, n, c, D, rfl, ra, hc, da, ta, ea⟩ := hv
  have HV := Lib.hid hv'
  have HS := Lib.hid hs
  clear hs hv' ra hc da ta ea
  generalize hsd : decide (N < 0) = s at *
  clear hsd
  have SW := Lib.hid (fun W' (hb : Below w.heap.size w W') => wide_any (HV.out.keep hb) HS.out)
  go_enter Tryd.func28, Tryd.ntmps28
  have B0 : Below w.heap.size w ((w.alloc (.cells #[.bool s, .slice a n c] 51)).alloc (.cells #[.int .i64 0, .int .i64 0] 24)) := by (repeat (first | exact Below.refl _ _ | assumption | refine Below.drew ?_ | refine below_drewN ?_ _ | refine Below.setCell ?_ (by first | omega | (simp; done) | (simp; omega)) _ | refine Below.alloc ?_ (by first | omega | (simp; done) | (simp; omega)) _))
  have z0 : ((w.alloc (.cells #[.bool s, .slice a n c] 51)).alloc (.cells #[.int .i64 0, .int .i64 0] 24)).cell? ⟨w.heap.size + 1, 0, none⟩ = some (.int .i64 0) := alloc_cell (by simp) rfl
  have z1 : ((w.alloc (.cells #[.bool s, .slice a n c] 51)).alloc (.cells #[.int .i64 0, .int .i64 0] 24)).cell? ⟨w.heap.size + 1, 1, none⟩ = some (.int .i64 0) := alloc_cell (by simp) rfl
  have fr : ∀ o, ((w.alloc (.cells #[.bool s, .slice a n c] 51)).alloc (.cells #[.int .i64 0, .int .i64 0] 24)).frozen? ⟨w.heap.size + 1, o, none⟩ = false := fun o => alloc_frozen (by simp)
  have hsz : w.heap.size + 1 < ((w.alloc (.cells #[.bool s, .slice a n c] 51)).alloc (.cells #[.int .i64 0, .int .i64 0] 24)).heap.size := by simp
  go_upto_region 2 with (go_at_call 34; refine (SW.out _ B0).mono ?_; rintro e w1 ⟨hb1, h, l, r, rfl, hw⟩; have hB1 : Below w.heap.size w w1 := B0.trans (hb1.mono (by omega)); replace z0 := keepc hb1 z0; replace z1 := keepc hb1 z1; have f0 := (hb1.frozen (p := ⟨w.heap.size + 1, 0, none⟩) hsz).trans (fr 0); have f1 := (hb1.frozen (p := ⟨w.heap.size + 1, 1, none⟩) hsz).trans (fr 1))
  obtain ⟨rfl, hw⟩ := hw
  have hs1 : w.heap.size + 1 < w1.heap.size := cell_lt z0
  clear hb1 fr hsz B0 HV SW
  have y0 := keepa (o := .cells #[.int .i64 h, .int .i64 l] 24) z0
  have y1 := keepa (o := .cells #[.int .i64 h, .int .i64 l] 24) z1
  have g0 : (w1.alloc (.cells #[.int .i64 h, .int .i64 l] 24)).frozen? ⟨w.heap.size + 1, 0, none⟩ = false := (Below.frozen ((Below.refl w1.heap.size w1).alloc (Nat.le_refl _) _) (p := ⟨w.heap.size + 1, 0, none⟩) hs1).trans f0
  have g1 : (w1.alloc (.cells #[.int .i64 h, .int .i64 l] 24)).frozen? ⟨w.heap.size + 1, 1, none⟩ = false := (Below.frozen ((Below.refl w1.heap.size w1).alloc (Nat.le_refl _) _) (p := ⟨w.heap.size + 1, 1, none⟩) hs1).trans f1
  have c0 : (w1.alloc (.cells #[.int .i64 h, .int .i64 l] 24)).cell? ⟨w1.heap.size, 0, none⟩ = some (.int .i64 h) := alloc_cell rfl rfl
  have c1 : (w1.alloc (.cells #[.int .i64 h, .int .i64 l] 24)).cell? ⟨w1.heap.size, 1, none⟩ = some (.int .i64 l) := alloc_cell rfl rfl
  have B2 : Below w.heap.size w (w1.alloc (.cells #[.int .i64 h, .int .i64 l] 24)) := hB1.alloc (by omega) _
  generalize (w1.alloc (.cells #[.int .i64 h, .int .i64 l] 24)) = V at *
  have HW := Lib.hid hw
  clear z0 z1 f0 f1 hB1 hw
  cases hfv : fits N
  · obtain ⟨rfl, rfl, rfl⟩ := H2.out hfv
    clear HW c0 c1 H1 H2
    go_wp2
    exact bodyPost_ret (v := .tuple #[.agg #[.int .i64 0, .int .i64 0], .int .i64 4]) (by simp [results, Tryd.results28, go_sem, y0, y1]) rfl ⟨rfl, by (repeat (first | exact Below.refl _ _ | assumption | refine Below.drew ?_ | refine below_drewN ?_ _ | refine Below.setCell ?_ (by first | omega | (simp; done) | (simp; omega)) _ | refine Below.alloc ?_ (by first | omega | (simp; done) | (simp; omega)) _))⟩
  · obtain ⟨e1, e2, e3⟩ := H1.out hfv
    obtain ⟨e4, e5⟩ := HW.out hfv
    rw [← e1] at e4
    rw [← e2] at e5
    subst e4 e5 e3
    clear HW H1 H2 e1 e2
    go_wp2
    exact bodyPost_ret (v := .tuple #[.agg #[.int .i64 h, .int .i64 l], .int .i64 0]) (by simp [results, Tryd.results28, go_sem, y0, y1]) rfl ⟨rfl, by (repeat (first | exact Below.refl _ _ | assumption | refine Below.drew ?_ | refine below_drewN ?_ _ | refine Below.setCell ?_ (by first | omega | (simp; done) | (simp; omega)) _ | refine Below.alloc ?_ (by first | omega | (simp; done) | (simp; omega)) _))⟩
theorem told_any {w : World} {v : Value} {N : Int} (hv : NumV w v N) (hs : Small N) :
    Calls Tryd.prog 28 #[v] w fun e w' => e = .returned (.tuple #[.agg #[.int .i64 (if fits N then N / 1000000000000000000 else 0), .int .i64 (if fits N then N % 1000000000000000000 else 0)], .int .i64 (if fits N then 0 else 4)]) ∧ Below w.heap.size w w' :=
  told_at hv hs _ _ _ (fun h => by rw [h]; exact ⟨rfl, rfl, rfl⟩) (fun h => by rw [h]; exact ⟨rfl, rfl, rfl⟩)
end Go.Proofs.YtjndajndllimhaaDoor
