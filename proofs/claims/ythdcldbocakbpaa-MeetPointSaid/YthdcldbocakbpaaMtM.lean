/-
  The document's rows of chapter 10, as the law's function met asks them. (gen/MtM.py)
-/
import Derived.Test.YthdcldbocakbpaaMtF
namespace Go.Proofs.Ythdcldbocakbpaa
open Go.RowKit

set_option maxRecDepth 100000 in
set_option maxHeartbeats 4000000 in
theorem met_any (w : World) : Calls Try.prog 16 #[] w fun e w' => e = .returned (.bool true) ∧ Below w.heap.size w w' := by
  have O1 := Lib.hid (fun W => (overlap_any 0 0 4 0 0 4 4 4 4 0 0 4 true (by decide) W : Calls Try.prog 10 #[.agg #[.int .i64 0, .int .i64 0, .int .i64 4, .int .i64 0, .int .i64 0, .int .i64 4], .agg #[.int .i64 4, .int .i64 4, .int .i64 4, .int .i64 0, .int .i64 0, .int .i64 4]] W fun e' w' => e' = .returned (.tuple #[.bool false, .int .i64 0]) ∧ Below W.heap.size W w'))
  have T1 := Lib.hid (fun W => (touch_any 0 0 4 0 0 4 4 4 4 0 0 4 true (by decide) W : Calls Try.prog 12 #[.agg #[.int .i64 0, .int .i64 0, .int .i64 4, .int .i64 0, .int .i64 0, .int .i64 4], .agg #[.int .i64 4, .int .i64 4, .int .i64 4, .int .i64 0, .int .i64 0, .int .i64 4]] W fun e' w' => e' = .returned (.tuple #[.bool true, .int .i64 0]) ∧ Below W.heap.size W w'))
  have I1 := Lib.hid (fun W => (in_any 1 1 0 0 4 0 0 4 W : Calls Try.prog 8 #[.agg #[.int .i64 1, .int .i64 1], .agg #[.int .i64 0, .int .i64 0, .int .i64 4, .int .i64 0, .int .i64 0, .int .i64 4]] W fun e' w' => e' = .returned (.tuple #[.int .i64 2, .int .i64 0]) ∧ Below W.heap.size W w'))
  have I2 := Lib.hid (fun W => (in_any 2 2 0 0 4 0 0 4 W : Calls Try.prog 8 #[.agg #[.int .i64 2, .int .i64 2], .agg #[.int .i64 0, .int .i64 0, .int .i64 4, .int .i64 0, .int .i64 0, .int .i64 4]] W fun e' w' => e' = .returned (.tuple #[.int .i64 1, .int .i64 0]) ∧ Below W.heap.size W w'))
  have I3 := Lib.hid (fun W => (in_any 3 3 0 0 4 0 0 4 W : Calls Try.prog 8 #[.agg #[.int .i64 3, .int .i64 3], .agg #[.int .i64 0, .int .i64 0, .int .i64 4, .int .i64 0, .int .i64 0, .int .i64 4]] W fun e' w' => e' = .returned (.tuple #[.int .i64 0, .int .i64 0]) ∧ Below W.heap.size W w'))
  have S1 := Lib.hid (fun W => (square_any 4 0 2 0 0 4 0 0 4 W : Calls Try.prog 14 #[.agg #[.int .i64 4, .int .i64 0], .int .i64 2, .agg #[.int .i64 0, .int .i64 0, .int .i64 4, .int .i64 0, .int .i64 0, .int .i64 4]] W fun e' w' => e' = .returned (.tuple #[.bool true, .int .i64 0]) ∧ Below W.heap.size W w'))
  have T2 := Lib.hid (fun W => (touch_any 0 0 4 0 0 4 0 0 0 0 0 0 false (by decide) W : Calls Try.prog 12 #[.agg #[.int .i64 0, .int .i64 0, .int .i64 4, .int .i64 0, .int .i64 0, .int .i64 4], .agg #[.int .i64 0, .int .i64 0, .int .i64 0, .int .i64 0, .int .i64 0, .int .i64 0]] W fun e' w' => e' = .returned (.tuple #[.bool false, .int .i64 1]) ∧ Below W.heap.size W w'))
  have R1 := Lib.hid (fun W => (right_any 0 0 4 0 0 4 W : Calls Try.prog 17 #[.agg #[.int .i64 0, .int .i64 0, .int .i64 4, .int .i64 0, .int .i64 0, .int .i64 4]] W fun e' w' => e' = .returned (.bool true) ∧ Below W.heap.size W w'))
  go_enter Try.func16, Try.ntmps16
  go_upto_region 2 with fail
  have hba := below_new1 w (.cells #[.int .i64 0, .int .i64 0, .int .i64 4, .int .i64 0, .int .i64 0, .int .i64 4] 24)
  have za : (w.alloc (.cells #[.int .i64 0, .int .i64 0, .int .i64 4, .int .i64 0, .int .i64 0, .int .i64 4] 24)).heap.size = w.heap.size + 1 := by simp
  have HB := Lib.hid hba
  have ka := Lib.hid (Lok.new w 24 #[.int .i64 0, .int .i64 0, .int .i64 4, .int .i64 0, .int .i64 0, .int .i64 4])
  clear hba
  generalize w.alloc (.cells #[.int .i64 0, .int .i64 0, .int .i64 4, .int .i64 0, .int .i64 0, .int .i64 4] 24) = Va at *
  clear za
  go_upto_region 3 with fail
  have hbb := below_new1 Va (.cells #[.int .i64 4, .int .i64 4, .int .i64 4, .int .i64 0, .int .i64 0, .int .i64 4] 24)
  replace ka := Lib.hid (ka.out.keep hbb)
  have zb : (Va.alloc (.cells #[.int .i64 4, .int .i64 4, .int .i64 4, .int .i64 0, .int .i64 0, .int .i64 4] 24)).heap.size = Va.heap.size + 1 := by simp
  replace HB := Lib.hid (HB.out.trans (hbb.mono HB.out.size))
  have kb := Lib.hid (Lok.new Va 24 #[.int .i64 4, .int .i64 4, .int .i64 4, .int .i64 0, .int .i64 0, .int .i64 4])
  clear hbb
  generalize Va.alloc (.cells #[.int .i64 4, .int .i64 4, .int .i64 4, .int .i64 0, .int .i64 0, .int .i64 4] 24) = Vb at *
  clear zb
  have a0 := ka.out.cell (i := 0) rfl
  have a1 := ka.out.cell (i := 1) rfl
  have a2 := ka.out.cell (i := 2) rfl
  have a3 := ka.out.cell (i := 3) rfl
  have a4 := ka.out.cell (i := 4) rfl
  have a5 := ka.out.cell (i := 5) rfl
  have b0 := kb.out.cell (i := 0) rfl
  have b1 := kb.out.cell (i := 1) rfl
  have b2 := kb.out.cell (i := 2) rfl
  have b3 := kb.out.cell (i := 3) rfl
  have b4 := kb.out.cell (i := 4) rfl
  have b5 := kb.out.cell (i := 5) rfl
  go_wp2_with fail
  clear a0 a1 a2 a3 a4 a5 b0 b1 b2 b3 b4 b5
  (((with_reducible refine (O1.out _).mono ?_); rintro e w1 ⟨rfl, hb1⟩); replace HB := Lib.hid (HB.out.trans (hb1.mono HB.out.size)); replace ka := Lib.hid (ka.out.keep hb1); replace kb := Lib.hid (kb.out.keep hb1); clear hb1)
  clear O1
  have a0 := ka.out.cell (i := 0) rfl
  have a1 := ka.out.cell (i := 1) rfl
  have a2 := ka.out.cell (i := 2) rfl
  have a3 := ka.out.cell (i := 3) rfl
  have a4 := ka.out.cell (i := 4) rfl
  have a5 := ka.out.cell (i := 5) rfl
  have b0 := kb.out.cell (i := 0) rfl
  have b1 := kb.out.cell (i := 1) rfl
  have b2 := kb.out.cell (i := 2) rfl
  have b3 := kb.out.cell (i := 3) rfl
  have b4 := kb.out.cell (i := 4) rfl
  have b5 := kb.out.cell (i := 5) rfl
  go_wp2_with fail
  clear a0 a1 a2 a3 a4 a5 b0 b1 b2 b3 b4 b5
  (((with_reducible refine (T1.out _).mono ?_); rintro e w2 ⟨rfl, hb2⟩); replace HB := Lib.hid (HB.out.trans (hb2.mono HB.out.size)); replace ka := Lib.hid (ka.out.keep hb2); replace kb := Lib.hid (kb.out.keep hb2); clear hb2)
  clear T1
  clear kb
  have a0 := ka.out.cell (i := 0) rfl
  have a1 := ka.out.cell (i := 1) rfl
  have a2 := ka.out.cell (i := 2) rfl
  have a3 := ka.out.cell (i := 3) rfl
  have a4 := ka.out.cell (i := 4) rfl
  have a5 := ka.out.cell (i := 5) rfl
  go_wp2_with fail
  clear a0 a1 a2 a3 a4 a5
  (((with_reducible refine (I1.out _).mono ?_); rintro e w3 ⟨rfl, hb3⟩); replace HB := Lib.hid (HB.out.trans (hb3.mono HB.out.size)); replace ka := Lib.hid (ka.out.keep hb3); clear hb3)
  clear I1
  have a0 := ka.out.cell (i := 0) rfl
  have a1 := ka.out.cell (i := 1) rfl
  have a2 := ka.out.cell (i := 2) rfl
  have a3 := ka.out.cell (i := 3) rfl
  have a4 := ka.out.cell (i := 4) rfl
  have a5 := ka.out.cell (i := 5) rfl
  go_wp2_with fail
  clear a0 a1 a2 a3 a4 a5
  (((with_reducible refine (I2.out _).mono ?_); rintro e w4 ⟨rfl, hb4⟩); replace HB := Lib.hid (HB.out.trans (hb4.mono HB.out.size)); replace ka := Lib.hid (ka.out.keep hb4); clear hb4)
  clear I2
  have a0 := ka.out.cell (i := 0) rfl
  have a1 := ka.out.cell (i := 1) rfl
  have a2 := ka.out.cell (i := 2) rfl
  have a3 := ka.out.cell (i := 3) rfl
  have a4 := ka.out.cell (i := 4) rfl
  have a5 := ka.out.cell (i := 5) rfl
  go_wp2_with fail
  clear a0 a1 a2 a3 a4 a5
  (((with_reducible refine (I3.out _).mono ?_); rintro e w5 ⟨rfl, hb5⟩); replace HB := Lib.hid (HB.out.trans (hb5.mono HB.out.size)); replace ka := Lib.hid (ka.out.keep hb5); clear hb5)
  clear I3
  have a0 := ka.out.cell (i := 0) rfl
  have a1 := ka.out.cell (i := 1) rfl
  have a2 := ka.out.cell (i := 2) rfl
  have a3 := ka.out.cell (i := 3) rfl
  have a4 := ka.out.cell (i := 4) rfl
  have a5 := ka.out.cell (i := 5) rfl
  go_wp2_with fail
  clear a0 a1 a2 a3 a4 a5
  (((with_reducible refine (S1.out _).mono ?_); rintro e w6 ⟨rfl, hb6⟩); replace HB := Lib.hid (HB.out.trans (hb6.mono HB.out.size)); replace ka := Lib.hid (ka.out.keep hb6); clear hb6)
  clear S1
  have a0 := ka.out.cell (i := 0) rfl
  have a1 := ka.out.cell (i := 1) rfl
  have a2 := ka.out.cell (i := 2) rfl
  have a3 := ka.out.cell (i := 3) rfl
  have a4 := ka.out.cell (i := 4) rfl
  have a5 := ka.out.cell (i := 5) rfl
  go_wp2_with fail
  clear a0 a1 a2 a3 a4 a5
  (((with_reducible refine (T2.out _).mono ?_); rintro e w7 ⟨rfl, hb7⟩); replace HB := Lib.hid (HB.out.trans (hb7.mono HB.out.size)); replace ka := Lib.hid (ka.out.keep hb7); clear hb7)
  clear T2
  have a0 := ka.out.cell (i := 0) rfl
  have a1 := ka.out.cell (i := 1) rfl
  have a2 := ka.out.cell (i := 2) rfl
  have a3 := ka.out.cell (i := 3) rfl
  have a4 := ka.out.cell (i := 4) rfl
  have a5 := ka.out.cell (i := 5) rfl
  go_wp2_with fail
  clear a0 a1 a2 a3 a4 a5
  (((with_reducible refine (R1.out _).mono ?_); rintro e w8 ⟨rfl, hb8⟩); replace HB := Lib.hid (HB.out.trans (hb8.mono HB.out.size)); replace ka := Lib.hid (ka.out.keep hb8); clear hb8)
  go_wp2
  go_ret
  exact ⟨rfl, HB.out⟩
end Go.Proofs.Ythdcldbocakbpaa
