/-
  The chapter's own rows of package whole: parted answers true.
-/
import Derived.Test.YtjndajndllimhaaWhB
import Derived.Test.YtjndajndllimhaaWhC
import Derived.Test.YtjndajndllimhaaWhD
import Derived.Deep.DrawnRows
namespace Go.Proofs.Ytjndajndllimhaa
open Go.RowKit

theorem pF1 (W : World) : Calls Try.prog 10 #[.int .i64 7, .int .i64 2] W fun e w' => e = .returned (.tuple #[.int .i64 3, .int .i64 1, .int .i64 0]) ∧ Below W.heap.size W w' := by
  have h := floor2_any 7 2 W (by unfold In64; omega) (by unfold In64; omega)
  rw [show fQ 7 2 = 3 from by decide, show fR 7 2 = 1 from by decide, show fE 7 2 = 0 from by decide] at h
  exact h
theorem pF2 (W : World) : Calls Try.prog 10 #[.int .i64 (-7), .int .i64 2] W fun e w' => e = .returned (.tuple #[.int .i64 (-4), .int .i64 1, .int .i64 0]) ∧ Below W.heap.size W w' := by
  have h := floor2_any (-7) 2 W (by unfold In64; omega) (by unfold In64; omega)
  rw [show fQ (-7) 2 = -4 from by decide, show fR (-7) 2 = 1 from by decide, show fE (-7) 2 = 0 from by decide] at h
  exact h
theorem pF3 (W : World) : Calls Try.prog 10 #[.int .i64 7, .int .i64 (-2)] W fun e w' => e = .returned (.tuple #[.int .i64 (-4), .int .i64 (-1), .int .i64 0]) ∧ Below W.heap.size W w' := by
  have h := floor2_any 7 (-2) W (by unfold In64; omega) (by unfold In64; omega)
  rw [show fQ 7 (-2) = -4 from by decide, show fR 7 (-2) = -1 from by decide, show fE 7 (-2) = 0 from by decide] at h
  exact h
theorem pC1 (W : World) : Calls Try.prog 12 #[.int .i64 7, .int .i64 2] W fun e w' => e = .returned (.tuple #[.int .i64 4, .int .i64 0]) ∧ Below W.heap.size W w' := by
  have h := ceil_any 7 2 W (by unfold In64; omega) (by unfold In64; omega)
  rw [show cQ 7 2 = 4 from by decide, show fE 7 2 = 0 from by decide] at h
  exact h
theorem pG1 (b : Nat) (W : World) (h0 : W.cell? ⟨b, 0, none⟩ = some (.int .i64 12)) (h1 : W.cell? ⟨b, 1, none⟩ = some (.int .i64 (-18))) :
    Calls Try.prog 14 #[.slice (some ⟨b, 0, none⟩) 2 2] W fun e w' => e = .returned (.tuple #[.int .i64 6, .int .i64 0]) ∧ Below W.heap.size W w' := by
  have h := gcd_any (some ⟨b, 0, none⟩) [12, -18] 2 W ⟨by simp, .inr ⟨b, 0, rfl, cell_lt h0, fun i hi => by
    match i, hi with
    | 0, _ => exact h0
    | 1, _ => exact h1⟩⟩ (fun x hx => by simp at hx; unfold In64; omega) (by omega)
  rw [show gP [12, -18] = 6 from by decide, show gX [12, -18] = 0 from by decide] at h
  exact h
theorem pS1 (W : World) : Calls Try.prog 16 #[.int .i64 99] W fun e w' => e = .returned (.tuple #[.int .i64 9, .int .i64 0]) ∧ Below W.heap.size W w' :=
  sqrt_ok 99 9 W (by omega) ⟨by omega, by decide, fun _ => by decide⟩
theorem pL1 (W : World) : Calls Try.prog 18 #[.int .i64 9, .int .i64 1, .int .i64 5] W fun e w' => e = .returned (.tuple #[.int .i64 5, .int .i64 0]) ∧ Below W.heap.size W w' :=
  clamp_any 9 1 5 W

set_option maxRecDepth 100000 in
set_option maxHeartbeats 4000000 in
theorem parted_any (w : World) :
    Calls Try.prog 20 #[] w fun e w' => e = .returned (.bool true) ∧ Below w.heap.size w w' := by
  go_enter Try.func20, Try.ntmps20
  go_wp2_with fail
  (refine (pF1 _).mono ?_; rintro e w1 ⟨rfl, hb1⟩; have hB1 : Below w.heap.size w w1 := (by refine Below.trans ?_ (hb1.mono (by first | omega | (simp; done) | (simp; omega))); (repeat (first | exact Below.refl _ _ | assumption | refine Below.drew ?_ | refine below_drewN ?_ _ | refine Below.setCell ?_ (by first | omega | (simp; done) | (simp; omega)) _ | refine Below.alloc ?_ (by first | omega | (simp; done) | (simp; omega)) _))); have hsz1 : w.heap.size ≤ w1.heap.size := hB1.size)
  go_wp2_with fail
  (refine (pF2 _).mono ?_; rintro e w2 ⟨rfl, hb2⟩; have hB2 : Below w.heap.size w w2 := (by refine Below.trans ?_ (hb2.mono (by first | omega | (simp; done) | (simp; omega))); (repeat (first | exact Below.refl _ _ | assumption | refine Below.drew ?_ | refine below_drewN ?_ _ | refine Below.setCell ?_ (by first | omega | (simp; done) | (simp; omega)) _ | refine Below.alloc ?_ (by first | omega | (simp; done) | (simp; omega)) _))); have hsz2 : w.heap.size ≤ w2.heap.size := hB2.size)
  go_wp2_with fail
  (refine (pF3 _).mono ?_; rintro e w3 ⟨rfl, hb3⟩; have hB3 : Below w.heap.size w w3 := (by refine Below.trans ?_ (hb3.mono (by first | omega | (simp; done) | (simp; omega))); (repeat (first | exact Below.refl _ _ | assumption | refine Below.drew ?_ | refine below_drewN ?_ _ | refine Below.setCell ?_ (by first | omega | (simp; done) | (simp; omega)) _ | refine Below.alloc ?_ (by first | omega | (simp; done) | (simp; omega)) _))); have hsz3 : w.heap.size ≤ w3.heap.size := hB3.size)
  go_wp2_with fail
  (refine (pC1 _).mono ?_; rintro e w4 ⟨rfl, hb4⟩; have hB4 : Below w.heap.size w w4 := (by refine Below.trans ?_ (hb4.mono (by first | omega | (simp; done) | (simp; omega))); (repeat (first | exact Below.refl _ _ | assumption | refine Below.drew ?_ | refine below_drewN ?_ _ | refine Below.setCell ?_ (by first | omega | (simp; done) | (simp; omega)) _ | refine Below.alloc ?_ (by first | omega | (simp; done) | (simp; omega)) _))); have hsz4 : w.heap.size ≤ w4.heap.size := hB4.size)
  go_wp2_with fail
  refine (pG1 _ _ (by simp [go_sem]) (by simp [go_sem])).mono ?_
  rintro e w5 ⟨rfl, hb5⟩
  have hB5 : Below w.heap.size w w5 := (by refine Below.trans ?_ (hb5.mono (by simp; omega)); (repeat (first | exact Below.refl _ _ | assumption | refine Below.drew ?_ | refine below_drewN ?_ _ | refine Below.setCell ?_ (by first | omega | (simp; done) | (simp; omega)) _ | refine Below.alloc ?_ (by first | omega | (simp; done) | (simp; omega)) _)))
  have hsz5 : w.heap.size ≤ w5.heap.size := hB5.size
  go_wp2_with fail
  (refine (pS1 _).mono ?_; rintro e w6 ⟨rfl, hb6⟩; have hB6 : Below w.heap.size w w6 := (by refine Below.trans ?_ (hb6.mono (by first | omega | (simp; done) | (simp; omega))); (repeat (first | exact Below.refl _ _ | assumption | refine Below.drew ?_ | refine below_drewN ?_ _ | refine Below.setCell ?_ (by first | omega | (simp; done) | (simp; omega)) _ | refine Below.alloc ?_ (by first | omega | (simp; done) | (simp; omega)) _))); have hsz6 : w.heap.size ≤ w6.heap.size := hB6.size)
  go_wp2_with fail
  (refine (floor2_zero 1 _).mono ?_; rintro e w7 ⟨rfl, hb7⟩; have hB7 : Below w.heap.size w w7 := (by refine Below.trans ?_ (hb7.mono (by first | omega | (simp; done) | (simp; omega))); (repeat (first | exact Below.refl _ _ | assumption | refine Below.drew ?_ | refine below_drewN ?_ _ | refine Below.setCell ?_ (by first | omega | (simp; done) | (simp; omega)) _ | refine Below.alloc ?_ (by first | omega | (simp; done) | (simp; omega)) _))); have hsz7 : w.heap.size ≤ w7.heap.size := hB7.size)
  go_wp2_with fail
  (refine (pL1 _).mono ?_; rintro e w8 ⟨rfl, hb8⟩; have hB8 : Below w.heap.size w w8 := (by refine Below.trans ?_ (hb8.mono (by first | omega | (simp; done) | (simp; omega))); (repeat (first | exact Below.refl _ _ | assumption | refine Below.drew ?_ | refine below_drewN ?_ _ | refine Below.setCell ?_ (by first | omega | (simp; done) | (simp; omega)) _ | refine Below.alloc ?_ (by first | omega | (simp; done) | (simp; omega)) _))); have hsz8 : w.heap.size ≤ w8.heap.size := hB8.size)
  have HB := Lib.hid hB8
  clear hB1 hB2 hB3 hB4 hB5 hB6 hB7 hB8 hb1 hb2 hb3 hb4 hb5 hb6 hb7 hb8
  go_wp2
  go_ret
  exact ⟨rfl, HB.out⟩
end Go.Proofs.Ytjndajndllimhaa
