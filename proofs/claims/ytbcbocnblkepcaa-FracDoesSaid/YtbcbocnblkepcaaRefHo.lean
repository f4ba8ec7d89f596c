/-
  The reference's numbers: Other.
-/
import Derived.Test.YtbcbocnblkepcaaRefH
namespace Go.Proofs.Ytbcbocnblkepcaa
open Go.RowKit
open Go.BigFrame

set_option maxRecDepth 100000 in
set_option maxHeartbeats 1000000 in
theorem other_row (s : Bool) (a : Option Addr) (n c : Nat) (D : Nat → Int) (w : World) (ra : RowF w a n c D) (hc : c ≤ 9223372036854775807) (da : Dg D n) (X : Int) (hX : (if !s then -(vs D 0 n) else vs D 0 n) = X) :
    Calls Try.prog 46 #[.agg #[.bool s, .slice a n c]] w (RetNum X w) := by
  have HX := Lib.hid hX
  clear hX
  have hbl : ∀ b off, a = some ⟨b, off, none⟩ → b ≠ w.heap.size + 1 := fun b off e => by
    rcases ra with ⟨h, _⟩ | ⟨b', off', h, hl, _⟩
    · rw [h] at e; cases e
    · rw [h] at e; cases e; omega
  go_enter Try.func46, Try.ntmps46
  have rW := ra.keep (W' := (w.alloc (.cells #[.bool s, .slice a n c] 53)).alloc (.cells #[.bool false, .slice none 0 0] 53)) (by (repeat (first | exact Below.refl _ _ | assumption | refine Below.drew ?_ | refine below_drewN ?_ _ | refine Below.setCell ?_ (by first | omega | (simp; done) | (simp; omega)) _ | refine Below.alloc ?_ (by first | omega | (simp; done) | (simp; omega)) _)))
  have z0 : ((w.alloc (.cells #[.bool s, .slice a n c] 53)).alloc (.cells #[.bool false, .slice none 0 0] 53)).cell? ⟨w.heap.size + 1, 0, none⟩ = some (.bool false) := alloc_cell (by simp) rfl
  have z1 : ((w.alloc (.cells #[.bool s, .slice a n c] 53)).alloc (.cells #[.bool false, .slice none 0 0] 53)).cell? ⟨w.heap.size + 1, 1, none⟩ = some (.slice none 0 0) := alloc_cell (by simp) rfl
  have f0 : ∀ o, ((w.alloc (.cells #[.bool s, .slice a n c] 53)).alloc (.cells #[.bool false, .slice none 0 0] 53)).frozen? ⟨w.heap.size + 1, o, none⟩ = false := fun o => alloc_frozen (by simp)
  go_wp2_with ((go_at_call 44; refine ((trim_any _ _ _ _ D _ rW hc)).mono ?_; rintro e w1 ⟨rfl, hb1⟩; have hB1 : Below w.heap.size w w1 := (by refine Below.trans ?_ (hb1.mono (by first | omega | (simp; done) | (simp; omega))); (repeat (first | exact Below.refl _ _ | assumption | refine Below.drew ?_ | refine below_drewN ?_ _ | refine Below.setCell ?_ (by first | omega | (simp; done) | (simp; omega)) _ | refine Below.alloc ?_ (by first | omega | (simp; done) | (simp; omega)) _))); have hsz1 : w.heap.size ≤ w1.heap.size := hB1.size; replace z0 := keepc hb1 (by first | exact z0 | exact keepa z0 | exact keepa (keepa z0) | (simp [go_sem, *]; done)); replace z1 := keepc hb1 (by first | exact z1 | exact keepa z1 | exact keepa (keepa z1) | (simp [go_sem, *]; done))); have g0 := (hb1.frozen (p := ⟨w.heap.size + 1, 0, none⟩) (by simp)).trans (f0 0); have g1 := (hb1.frozen (p := ⟨w.heap.size + 1, 1, none⟩) (by simp)).trans (f0 1))
  have Z := num_of_trim (s := !s) (((rW.keep hb1).set (p := ⟨w.heap.size + 1, 0, none⟩) hbl (.bool (!s && decide (0 < tl D n)))).set (p := ⟨w.heap.size + 1, 1, none⟩) hbl (.slice a (tl D n) c)) hc da
  rw [HX.out] at Z
  exact bodyPost_ret (v := .agg #[.bool (!s && decide (0 < tl D n)), .slice a (tl D n) c]) (by simp [results, Try.results46, go_sem, z0, z1]) rfl ⟨by (repeat (first | exact Below.refl _ _ | assumption | refine Below.drew ?_ | refine below_drewN ?_ _ | refine Below.setCell ?_ (by first | omega | (simp; done) | (simp; omega)) _ | refine Below.alloc ?_ (by first | omega | (simp; done) | (simp; omega)) _)), _, rfl, Z⟩
theorem other_any {w : World} {v : Value} {A : Int} (ha : NumV w v A) : Calls Try.prog 46 #[v] w (RetNum (-A) w) := by
  obtain ⟨a, n, c, D, rfl, ra, hc, da, ta, ea⟩ := ha
  have := other_row (decide (A < 0)) a n c D w ra hc da _ rfl
  have fa := side (N := A) rfl ea
  generalize decide (A < 0) = s at *
  cases s
  · simp only [Bool.false_eq_true, if_false] at fa
    rw [fa]; simpa using this
  · simp only [if_true] at fa
    rw [fa, Int.neg_neg]; simpa using this
end Go.Proofs.Ytbcbocnblkepcaa
