/-
  The document's rows of chapter 13. (gen/SbV.py)
-/
import Derived.Test.YtfghjfgdjlkooaaSbE
namespace Go.Proofs.Ytfghjfgdjlkooaa
open Go.RowKit

set_option maxRecDepth 100000 in
set_option maxHeartbeats 16000000 in
theorem boxed_any (w : World) :
    Calls Try.prog 16 #[] w fun e' w' => e' = .returned (.bool true) ∧ Below w.heap.size w w' := by
  have HB := Lib.hid (Below.refl w.heap.size w)
  have O : Hid (∀ g T W, Lok W g T #[.int .i64 0, .int .i64 0, .int .i64 0, .int .i64 4, .int .i64 4, .int .i64 4] → Calls Try.prog 8 #[.slice (some ⟨g, 0, none⟩) 2 2] W fun e' w' => e' = .returned (.tuple #[.agg #[.int .i64 0, .int .i64 0, .int .i64 0, .int .i64 4, .int .i64 4, .int .i64 4], .int .i64 0]) ∧ Below W.heap.size W w') := Lib.hid (fun g T W h => by
    have q := slof_2 0 0 0 4 4 4 true (by decide) g T W h
    simp only [vF_yes, show rE true = 0 from rfl, show min (0 : Int) 4 = 0 from rfl, show max (0 : Int) 4 = 4 from rfl] at q
    exact q)
  have M1 : Hid (∀ W, Calls Try.prog 12 #[.agg #[.int .i64 (-2), .int .i64 0, .int .i64 0], .agg #[.int .i64 9, .int .i64 9, .int .i64 9], .agg #[.int .i64 0, .int .i64 0, .int .i64 0, .int .i64 4, .int .i64 4, .int .i64 4]] W fun e' w' => e' = .returned (.tuple #[.bool true, .int .i64 0]) ∧ Below W.heap.size W w') := Lib.hid (fun W => by
    have q := meets_any (-2) 0 0 9 9 9 0 0 0 4 4 4 true (by decide) W
    rw [show (true && (bxR 0 0 0 4 4 4 && meP (-2) 0 0 9 9 9 0 0 0 4 4 4)) = true from by decide, show meE true (bxR 0 0 0 4 4 4) = 0 from by decide] at q
    exact q)
  have M2 : Hid (∀ W, Calls Try.prog 12 #[.agg #[.int .i64 (-1), .int .i64 5, .int .i64 2], .agg #[.int .i64 5, .int .i64 (-1), .int .i64 2], .agg #[.int .i64 0, .int .i64 0, .int .i64 0, .int .i64 4, .int .i64 4, .int .i64 4]] W fun e' w' => e' = .returned (.tuple #[.bool true, .int .i64 0]) ∧ Below W.heap.size W w') := Lib.hid (fun W => by
    have q := meets_any (-1) 5 2 5 (-1) 2 0 0 0 4 4 4 true (by decide) W
    rw [show (true && (bxR 0 0 0 4 4 4 && meP (-1) 5 2 5 (-1) 2 0 0 0 4 4 4)) = true from by decide, show meE true (bxR 0 0 0 4 4 4) = 0 from by decide] at q
    exact q)
  have M3 : Hid (∀ W, Calls Try.prog 12 #[.agg #[.int .i64 5, .int .i64 0, .int .i64 0], .agg #[.int .i64 9, .int .i64 9, .int .i64 9], .agg #[.int .i64 0, .int .i64 0, .int .i64 0, .int .i64 4, .int .i64 4, .int .i64 4]] W fun e' w' => e' = .returned (.tuple #[.bool false, .int .i64 0]) ∧ Below W.heap.size W w') := Lib.hid (fun W => by
    have q := meets_any 5 0 0 9 9 9 0 0 0 4 4 4 true (by decide) W
    rw [show (true && (bxR 0 0 0 4 4 4 && meP 5 0 0 9 9 9 0 0 0 4 4 4)) = false from by decide, show meE true (bxR 0 0 0 4 4 4) = 0 from by decide] at q
    exact q)
  have O0 := Lib.hid (fun W => slof_0 W)
  have LG : Hid (∀ W, Calls Try.prog 14 #[.agg #[.int .i64 0, .int .i64 0, .int .i64 0, .int .i64 4, .int .i64 4, .int .i64 4]] W fun e' w' => e' = .returned (.tuple #[.int .i64 0, .int .i64 0]) ∧ Below W.heap.size W w') := Lib.hid (fun W => by
    have q := longest_any 0 0 0 4 4 4 W
    rw [show lgV (bxR 0 0 0 4 4 4) 0 0 0 4 4 4 = 0 from by decide, show aE (bxR 0 0 0 4 4 4) = 0 from by decide] at q
    exact q)
  have JN : Hid (∀ W, Calls Try.prog 10 #[.agg #[.int .i64 0, .int .i64 0, .int .i64 0, .int .i64 4, .int .i64 4, .int .i64 4], .agg #[.int .i64 1, .int .i64 0, .int .i64 0, .int .i64 0, .int .i64 0, .int .i64 0]] W fun e' w' => e' = .returned (.tuple #[.agg #[.int .i64 0, .int .i64 0, .int .i64 0, .int .i64 0, .int .i64 0, .int .i64 0], .int .i64 1]) ∧ Below W.heap.size W w') := Lib.hid (fun W => by
    have q := sljoin_any 0 0 0 4 4 4 1 0 0 0 0 0 W
    rw [show (bxR 0 0 0 4 4 4 && bxR 1 0 0 0 0 0) = false from by decide] at q
    exact q)
  have IS : Hid (∀ W, Calls Try.prog 17 #[.agg #[.int .i64 0, .int .i64 0, .int .i64 0, .int .i64 4, .int .i64 4, .int .i64 4]] W fun e' w' => e' = .returned (.bool true) ∧ Below W.heap.size W w') := Lib.hid (fun W => slis_any 0 0 0 4 4 4 W)
  have HS : Hid (∀ W, Calls Try.prog 19 #[.agg #[.int .i64 0, .int .i64 0, .int .i64 0, .int .i64 4, .int .i64 4, .int .i64 4], .agg #[.int .i64 4, .int .i64 0, .int .i64 0]] W fun e' w' => e' = .returned (.bool true) ∧ Below W.heap.size W w') := Lib.hid (fun W => slhas_any 0 0 0 4 4 4 4 0 0 W)
  go_enter Try.func16, Try.ntmps16
  go_wp2_with fail
  have hbr := below_new1 w (.cells #[.int .i64 0, .int .i64 0, .int .i64 0, .int .i64 4, .int .i64 4, .int .i64 4] 23)
  have zr : (w.alloc (.cells #[.int .i64 0, .int .i64 0, .int .i64 0, .int .i64 4, .int .i64 4, .int .i64 4] 23)).heap.size = w.heap.size + 1 := by simp
  have HB := Lib.hid hbr
  have kr := Lib.hid (Lok.new w 23 #[.int .i64 0, .int .i64 0, .int .i64 0, .int .i64 4, .int .i64 4, .int .i64 4])
  clear hbr
  generalize w.alloc (.cells #[.int .i64 0, .int .i64 0, .int .i64 0, .int .i64 4, .int .i64 4, .int .i64 4] 23) = Vr at *
  clear zr
  (((with_reducible refine (O.out _ _ _ kr.out).mono ?_); rintro e w1 ⟨rfl, hb1⟩); replace HB := Lib.hid (HB.out.trans (hb1.mono HB.out.size)); clear hb1)
  clear O kr
  go_upto_region 2 with fail
  have hbb := below_new1 w1 (.cells #[.int .i64 0, .int .i64 0, .int .i64 0, .int .i64 4, .int .i64 4, .int .i64 4] 25)
  have zb : (w1.alloc (.cells #[.int .i64 0, .int .i64 0, .int .i64 0, .int .i64 4, .int .i64 4, .int .i64 4] 25)).heap.size = w1.heap.size + 1 := by simp
  replace HB := Lib.hid (HB.out.trans (hbb.mono HB.out.size))
  have kb := Lib.hid (Lok.new w1 25 #[.int .i64 0, .int .i64 0, .int .i64 0, .int .i64 4, .int .i64 4, .int .i64 4])
  clear hbb
  generalize w1.alloc (.cells #[.int .i64 0, .int .i64 0, .int .i64 0, .int .i64 4, .int .i64 4, .int .i64 4] 25) = Vb at *
  clear zb
  have b0 := kb.out.cell (i := 0) rfl
  have b1 := kb.out.cell (i := 1) rfl
  have b2 := kb.out.cell (i := 2) rfl
  have b3 := kb.out.cell (i := 3) rfl
  have b4 := kb.out.cell (i := 4) rfl
  have b5 := kb.out.cell (i := 5) rfl
  go_wp2_with fail
  clear b0 b1 b2 b3 b4 b5
  (((with_reducible refine (M1.out _).mono ?_); rintro e w2 ⟨rfl, hb2⟩); replace HB := Lib.hid (HB.out.trans (hb2.mono HB.out.size)); replace kb := Lib.hid (kb.out.keep hb2); clear hb2)
  clear M1
  have b0 := kb.out.cell (i := 0) rfl
  have b1 := kb.out.cell (i := 1) rfl
  have b2 := kb.out.cell (i := 2) rfl
  have b3 := kb.out.cell (i := 3) rfl
  have b4 := kb.out.cell (i := 4) rfl
  have b5 := kb.out.cell (i := 5) rfl
  go_wp2_with fail
  clear b0 b1 b2 b3 b4 b5
  (((with_reducible refine (M2.out _).mono ?_); rintro e w3 ⟨rfl, hb3⟩); replace HB := Lib.hid (HB.out.trans (hb3.mono HB.out.size)); replace kb := Lib.hid (kb.out.keep hb3); clear hb3)
  clear M2
  have b0 := kb.out.cell (i := 0) rfl
  have b1 := kb.out.cell (i := 1) rfl
  have b2 := kb.out.cell (i := 2) rfl
  have b3 := kb.out.cell (i := 3) rfl
  have b4 := kb.out.cell (i := 4) rfl
  have b5 := kb.out.cell (i := 5) rfl
  go_wp2_with fail
  clear b0 b1 b2 b3 b4 b5
  (((with_reducible refine (M3.out _).mono ?_); rintro e w4 ⟨rfl, hb4⟩); replace HB := Lib.hid (HB.out.trans (hb4.mono HB.out.size)); replace kb := Lib.hid (kb.out.keep hb4); clear hb4)
  clear M3
  go_wp2_with fail
  (((with_reducible refine (O0.out _).mono ?_); rintro e w5 ⟨rfl, hb5⟩); replace HB := Lib.hid (HB.out.trans (hb5.mono HB.out.size)); replace kb := Lib.hid (kb.out.keep hb5); clear hb5)
  clear O0
  go_upto_region 6 with fail
  have hbo := below_new1 w5 (.cells #[.int .i64 0, .int .i64 0, .int .i64 0, .int .i64 0, .int .i64 0, .int .i64 0] 25)
  replace kb := Lib.hid (kb.out.keep hbo)
  have zo : (w5.alloc (.cells #[.int .i64 0, .int .i64 0, .int .i64 0, .int .i64 0, .int .i64 0, .int .i64 0] 25)).heap.size = w5.heap.size + 1 := by simp
  replace HB := Lib.hid (HB.out.trans (hbo.mono HB.out.size))
  have ko := Lib.hid (Lok.new w5 25 #[.int .i64 0, .int .i64 0, .int .i64 0, .int .i64 0, .int .i64 0, .int .i64 0])
  clear hbo
  generalize w5.alloc (.cells #[.int .i64 0, .int .i64 0, .int .i64 0, .int .i64 0, .int .i64 0, .int .i64 0] 25) = Vo at *
  clear zo ko
  have b0 := kb.out.cell (i := 0) rfl
  have b1 := kb.out.cell (i := 1) rfl
  have b2 := kb.out.cell (i := 2) rfl
  have b3 := kb.out.cell (i := 3) rfl
  have b4 := kb.out.cell (i := 4) rfl
  have b5 := kb.out.cell (i := 5) rfl
  go_wp2_with fail
  clear b0 b1 b2 b3 b4 b5
  (((with_reducible refine (LG.out _).mono ?_); rintro e w6 ⟨rfl, hb6⟩); replace HB := Lib.hid (HB.out.trans (hb6.mono HB.out.size)); replace kb := Lib.hid (kb.out.keep hb6); clear hb6)
  clear LG
  have b0 := kb.out.cell (i := 0) rfl
  have b1 := kb.out.cell (i := 1) rfl
  have b2 := kb.out.cell (i := 2) rfl
  have b3 := kb.out.cell (i := 3) rfl
  have b4 := kb.out.cell (i := 4) rfl
  have b5 := kb.out.cell (i := 5) rfl
  go_wp2_with fail
  clear b0 b1 b2 b3 b4 b5
  (((with_reducible refine (JN.out _).mono ?_); rintro e w7 ⟨rfl, hb7⟩); replace HB := Lib.hid (HB.out.trans (hb7.mono HB.out.size)); replace kb := Lib.hid (kb.out.keep hb7); clear hb7)
  clear JN
  go_upto_region 8 with fail
  have hbp := below_new1 w7 (.cells #[.int .i64 0, .int .i64 0, .int .i64 0, .int .i64 0, .int .i64 0, .int .i64 0] 25)
  replace kb := Lib.hid (kb.out.keep hbp)
  have zp : (w7.alloc (.cells #[.int .i64 0, .int .i64 0, .int .i64 0, .int .i64 0, .int .i64 0, .int .i64 0] 25)).heap.size = w7.heap.size + 1 := by simp
  replace HB := Lib.hid (HB.out.trans (hbp.mono HB.out.size))
  have kp := Lib.hid (Lok.new w7 25 #[.int .i64 0, .int .i64 0, .int .i64 0, .int .i64 0, .int .i64 0, .int .i64 0])
  clear hbp
  generalize w7.alloc (.cells #[.int .i64 0, .int .i64 0, .int .i64 0, .int .i64 0, .int .i64 0, .int .i64 0] 25) = Vp at *
  clear zp kp
  have b0 := kb.out.cell (i := 0) rfl
  have b1 := kb.out.cell (i := 1) rfl
  have b2 := kb.out.cell (i := 2) rfl
  have b3 := kb.out.cell (i := 3) rfl
  have b4 := kb.out.cell (i := 4) rfl
  have b5 := kb.out.cell (i := 5) rfl
  go_wp2_with fail
  clear b0 b1 b2 b3 b4 b5
  (((with_reducible refine (IS.out _).mono ?_); rintro e w8 ⟨rfl, hb8⟩); replace HB := Lib.hid (HB.out.trans (hb8.mono HB.out.size)); replace kb := Lib.hid (kb.out.keep hb8); clear hb8)
  clear IS
  have b0 := kb.out.cell (i := 0) rfl
  have b1 := kb.out.cell (i := 1) rfl
  have b2 := kb.out.cell (i := 2) rfl
  have b3 := kb.out.cell (i := 3) rfl
  have b4 := kb.out.cell (i := 4) rfl
  have b5 := kb.out.cell (i := 5) rfl
  go_wp2_with fail
  clear b0 b1 b2 b3 b4 b5
  (((with_reducible refine (HS.out _).mono ?_); rintro e w9 ⟨rfl, hb9⟩); replace HB := Lib.hid (HB.out.trans (hb9.mono HB.out.size)); replace kb := Lib.hid (kb.out.keep hb9); clear hb9)
  clear HS kb
  go_wp2
  go_ret
  exact ⟨rfl, HB.out⟩
end Go.Proofs.Ytfghjfgdjlkooaa
