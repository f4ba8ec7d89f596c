/-
  The laws of package vec: the rows that they share.
-/
import Derived.Test.YtmejipfejdckiaaVcF
import Derived.Test.YtmejipfejdckiaaVcH
namespace Go.Proofs.Ytmejipfejdckiaa
open Go.RowKit

theorem sX3 (W : World) : Calls Try.prog 12 #[.agg #[.int .i64 1, .int .i64 0, .int .i64 0], .agg #[.int .i64 0, .int .i64 1, .int .i64 0]] W fun e w' => e = .returned (.tuple #[.agg #[.int .i64 0, .int .i64 0, .int .i64 1], .int .i64 0]) ∧ Below W.heap.size W w' := by
  have h := cross3_any 1 0 0 0 1 0 W
  rw [show xF (n3 1 0 0 && n3 0 1 0) 0 0 1 0 = 0 from by decide, show xF (n3 1 0 0 && n3 0 1 0) 0 1 0 0 = 0 from by decide, show xF (n3 1 0 0 && n3 0 1 0) 1 0 0 1 = 1 from by decide, show rE (n3 1 0 0 && n3 0 1 0) = 0 from by decide] at h
  exact h
theorem sX2 (W : World) : Calls Try.prog 10 #[.agg #[.int .i64 1, .int .i64 2], .agg #[.int .i64 3, .int .i64 4]] W fun e w' => e = .returned (.tuple #[.int .i64 (-2), .int .i64 0]) ∧ Below W.heap.size W w' := by
  have h := cross2_any 1 2 3 4 W
  rw [show xF (n2 1 2 && n2 3 4) 1 2 3 4 = -2 from by decide, show rE (n2 1 2 && n2 3 4) = 0 from by decide] at h
  exact h
theorem sD1 (W : World) : Calls Try.prog 14 #[.agg #[.int .i64 7, .int .i64 8, .int .i64 9], .int .i64 1] W fun e w' => e = .returned (.tuple #[.agg #[.int .i64 9, .int .i64 7], .int .i64 0]) ∧ Below W.heap.size W w' := vdrop_any 7 8 9 1 W
theorem sD3 (W : World) : Calls Try.prog 14 #[.agg #[.int .i64 0, .int .i64 0, .int .i64 0], .int .i64 3] W fun e w' => e = .returned (.tuple #[.agg #[.int .i64 0, .int .i64 0], .int .i64 1]) ∧ Below W.heap.size W w' := vdrop_any 0 0 0 3 W
theorem sDt (W : World) : Calls Try.prog 8 #[.agg #[.int .i64 1048577, .int .i64 0, .int .i64 0], .agg #[.int .i64 0, .int .i64 0, .int .i64 0]] W fun e w' => e = .returned (.tuple #[.int .i64 0, .int .i64 5]) ∧ Below W.heap.size W w' := by
  have h := dot_any 1048577 0 0 0 0 0 W
  rw [show dF (n3 1048577 0 0 && n3 0 0 0) 1048577 0 0 0 0 0 = 0 from by decide, show rE (n3 1048577 0 0 && n3 0 0 0) = 5 from by decide] at h
  exact h
theorem sAx (W : World) : Calls Try.prog 20 #[.agg #[.int .i64 3, .int .i64 (-3), .int .i64 2]] W fun e w' => e = .returned (.int .i64 0) ∧ Below W.heap.size W w' := axis_any 3 (-3) 2 W (by unfold I64; omega) (by unfold I64; omega) (by unfold I64; omega)
theorem sI2 (g : Nat) (T : TypeId) (W : World) (h : Lok W g T #[.int .i64 9, .int .i64 7]) : Calls Try.prog 25 #[.slice (some ⟨g, 0, none⟩) 1 1] W fun e w' => e = .returned (.bool true) ∧ Below W.heap.size W w' := by
  have q := is2_one 9 7 g T W h
  rw [show n2 9 7 = true from by decide] at q
  exact q

set_option maxRecDepth 100000 in
set_option maxHeartbeats 4000000 in
theorem crossed_any (w : World) :
    Calls Try.prog 24 #[] w fun e w' => e = .returned (.bool true) ∧ Below w.heap.size w w' := by
  have HB := Lib.hid (Below.refl w.heap.size w)
  go_enter Try.func24, Try.ntmps24
  go_wp2_with fail
  ((with_reducible refine (sX3 _).mono ?_); rintro e w1 ⟨rfl, hb1⟩)
  replace HB := Lib.hid (HB.out.trans (hb1.mono HB.out.size))
  clear hb1
  go_wp2_with fail
  have hb1 := below_new1 w1 (.cells #[.int .i64 0, .int .i64 0, .int .i64 1] 23)
  replace HB := Lib.hid (HB.out.trans (hb1.mono HB.out.size))
  have k1 := Lib.hid (Lok.new w1 23 #[.int .i64 0, .int .i64 0, .int .i64 1])
  clear hb1
  generalize w1.alloc (.cells #[.int .i64 0, .int .i64 0, .int .i64 1] 23) = V1 at *
  generalize w1.heap.size = g1 at *
  go_wp2_with fail
  (((with_reducible refine (sX2 _).mono ?_); rintro e w2 ⟨rfl, hb2⟩); replace HB := Lib.hid (HB.out.trans (hb2.mono HB.out.size)); replace k1 := Lib.hid (k1.out.keep hb2); clear hb2)
  go_wp2_with fail
  ((with_reducible refine (sD1 _).mono ?_); rintro e w3 ⟨rfl, hb3⟩)
  replace HB := Lib.hid (HB.out.trans (hb3.mono HB.out.size))
  replace k1 := Lib.hid (k1.out.keep hb3)
  clear hb3
  go_wp2_with fail
  have hb3 := below_new1 w3 (.cells #[.int .i64 9, .int .i64 7] 25)
  replace HB := Lib.hid (HB.out.trans (hb3.mono HB.out.size))
  replace k1 := Lib.hid (k1.out.keep hb3)
  have k3 := Lib.hid (Lok.new w3 25 #[.int .i64 9, .int .i64 7])
  clear hb3
  generalize w3.alloc (.cells #[.int .i64 9, .int .i64 7] 25) = V3 at *
  generalize w3.heap.size = g3 at *
  go_wp2_with fail
  ((with_reducible refine (sD3 _).mono ?_); rintro e w4 ⟨rfl, hb4⟩)
  replace HB := Lib.hid (HB.out.trans (hb4.mono HB.out.size))
  replace k1 := Lib.hid (k1.out.keep hb4)
  replace k3 := Lib.hid (k3.out.keep hb4)
  clear hb4
  go_wp2_with fail
  have hb4 := below_new1 w4 (.cells #[.int .i64 0, .int .i64 0] 25)
  replace HB := Lib.hid (HB.out.trans (hb4.mono HB.out.size))
  replace k1 := Lib.hid (k1.out.keep hb4)
  replace k3 := Lib.hid (k3.out.keep hb4)
  have k4 := Lib.hid (Lok.new w4 25 #[.int .i64 0, .int .i64 0])
  clear hb4
  generalize w4.alloc (.cells #[.int .i64 0, .int .i64 0] 25) = V4 at *
  generalize w4.heap.size = g4 at *
  go_wp2_with fail
  (((with_reducible refine (sDt _).mono ?_); rintro e w5 ⟨rfl, hb5⟩); replace HB := Lib.hid (HB.out.trans (hb5.mono HB.out.size)); replace k1 := Lib.hid (k1.out.keep hb5); replace k3 := Lib.hid (k3.out.keep hb5); clear hb5)
  have a0 := k1.out.cell (i := 0) rfl
  have a1 := k1.out.cell (i := 1) rfl
  have a2 := k1.out.cell (i := 2) rfl
  go_wp2_with fail
  clear a0 a1 a2
  (((with_reducible refine (sAx _).mono ?_); rintro e w6 ⟨rfl, hb6⟩); replace HB := Lib.hid (HB.out.trans (hb6.mono HB.out.size)); replace k1 := Lib.hid (k1.out.keep hb6); replace k3 := Lib.hid (k3.out.keep hb6); clear hb6)
  have b0 := k3.out.cell (i := 0) rfl
  have b1 := k3.out.cell (i := 1) rfl
  go_wp2_with fail
  clear b0 b1
  (((with_reducible refine (is3_none _).mono ?_); rintro e w7 ⟨rfl, hb7⟩); replace HB := Lib.hid (HB.out.trans (hb7.mono HB.out.size)); replace k1 := Lib.hid (k1.out.keep hb7); replace k3 := Lib.hid (k3.out.keep hb7); clear hb7)
  have b0 := k3.out.cell (i := 0) rfl
  have b1 := k3.out.cell (i := 1) rfl
  go_wp2_with fail
  have hbr := below_new1 w7 (.cells #[.int .i64 9, .int .i64 7] 25)
  have zr : (w7.alloc (.cells #[.int .i64 9, .int .i64 7] 25)).heap.size = w7.heap.size + 1 := by simp
  replace HB := Lib.hid (HB.out.trans (hbr.mono HB.out.size))
  have kr := Lib.hid (Lok.new w7 25 #[.int .i64 9, .int .i64 7])
  clear hbr
  generalize w7.alloc (.cells #[.int .i64 9, .int .i64 7] 25) = Vr at *
  clear zr
  generalize w7.heap.size = gr at *
  (((with_reducible refine (sI2 _ _ _ kr.out).mono ?_); rintro e w8 ⟨rfl, hb8⟩); replace HB := Lib.hid (HB.out.trans (hb8.mono HB.out.size)); clear hb8)
  go_wp2
  go_ret
  exact ⟨rfl, HB.out⟩
end Go.Proofs.Ytmejipfejdckiaa
