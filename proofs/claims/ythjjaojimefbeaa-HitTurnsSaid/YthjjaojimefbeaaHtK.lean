/-
  The document's rows of layer 12: struck. (gen/HtK.py)
-/
import Derived.Test.YthjjaojimefbeaaHtD
namespace Go.Proofs.Ythjjaojimefbeaa
open Go.RowKit

set_option maxRecDepth 100000 in
set_option maxHeartbeats 8000000 in
theorem struck_any (w : World) :
    Calls Try.prog 15 #[] w fun e' w' => e' = .returned (.bool true) ∧ Below w.heap.size w w' := by
  have HB := Lib.hid (Below.refl w.heap.size w)
  have C0 := Lib.hid (fun W => hit_any 1 1 (-1) 1 1 1 0 0 0 4 0 0 0 4 0 true (by decide +kernel) W)
  rw [show hV true (htB 1 1 (-1) 1 1 1 0 0 0 4 0 0 0 4 0) = true from by decide +kernel, show rE true = 0 from rfl] at C0
  have C1 := Lib.hid (fun W => hit_any 1 1 1 1 1 0 0 0 0 4 0 0 0 4 0 true (by decide +kernel) W)
  rw [show hV true (htB 1 1 1 1 1 0 0 0 0 4 0 0 0 4 0) = false from by decide +kernel, show rE true = 0 from rfl] at C1
  have C2 := Lib.hid (fun W => hit_any 0 0 (-1) 0 0 1 0 0 0 4 0 0 0 4 0 true (by decide +kernel) W)
  rw [show hV true (htB 0 0 (-1) 0 0 1 0 0 0 4 0 0 0 4 0) = true from by decide +kernel, show rE true = 0 from rfl] at C2
  have C3 := Lib.hid (fun W g (h : Lok W g 24 #[.int .i64 0, .int .i64 0, .int .i64 0, .int .i64 4, .int .i64 0, .int .i64 0, .int .i64 0, .int .i64 4, .int .i64 0, .int .i64 0, .int .i64 0, .int .i64 0, .int .i64 4, .int .i64 0, .int .i64 0, .int .i64 0, .int .i64 4, .int .i64 0]) => first_any 5 5 (-1) 5 5 1 _ 2 2 _ W (rowK_ints (n := 2) (k := 9) [0, 0, 0, 4, 0, 0, 0, 4, 0, 0, 0, 0, 4, 0, 0, 0, 4, 0] h rfl) (by omega))
  simp only [show fiG (okF 5 5 (-1) 5 5 1 (rowOf 9 [0, 0, 0, 4, 0, 0, 0, 4, 0, 0, 0, 0, 4, 0, 0, 0, 4, 0])) 2 = true from by decide +kernel, show fiF (htF 5 5 (-1) 5 5 1 (rowOf 9 [0, 0, 0, 4, 0, 0, 0, 4, 0, 0, 0, 0, 4, 0, 0, 0, 4, 0])) 2 = false from by decide +kernel, show fiV true (fiP (htF 5 5 (-1) 5 5 1 (rowOf 9 [0, 0, 0, 4, 0, 0, 0, 4, 0, 0, 0, 0, 4, 0, 0, 0, 4, 0])) 2) = 0 from by decide +kernel, show rE true = 0 from rfl, Bool.and_false] at C3
  have C4 := Lib.hid (fun W => side_any 16385 0 0 0 0 0 4 0 0 0 4 0 false (by decide +kernel) W)
  rw [vF_no, show ordI 0 0 = 0 from rfl, show rE false = 5 from rfl] at C4
  have C5 := Lib.hid (fun W => side_any 0 0 3 0 0 0 4 0 0 0 4 0 true (by decide +kernel) W)
  rw [show ordI (vF true (vo 0 0 0 4 0 0 0 4 0 0 0 3)) 0 = 1 from by decide +kernel, show rE true = 0 from rfl] at C5
  go_enter Try.func15, Try.ntmps15
  go_upto_region 2 with fail
  have hbt := below_new1 w (.cells #[.int .i64 0, .int .i64 0, .int .i64 0, .int .i64 4, .int .i64 0, .int .i64 0, .int .i64 0, .int .i64 4, .int .i64 0] 24)
  have zt : (w.alloc (.cells #[.int .i64 0, .int .i64 0, .int .i64 0, .int .i64 4, .int .i64 0, .int .i64 0, .int .i64 0, .int .i64 4, .int .i64 0] 24)).heap.size = w.heap.size + 1 := by simp
  have HB := Lib.hid hbt
  have kt := Lib.hid (Lok.new w 24 #[.int .i64 0, .int .i64 0, .int .i64 0, .int .i64 4, .int .i64 0, .int .i64 0, .int .i64 0, .int .i64 4, .int .i64 0])
  clear hbt
  generalize w.alloc (.cells #[.int .i64 0, .int .i64 0, .int .i64 0, .int .i64 4, .int .i64 0, .int .i64 0, .int .i64 0, .int .i64 4, .int .i64 0] 24) = Vt at *
  clear zt
  have t0 := kt.out.cell (i := 0) rfl
  have t1 := kt.out.cell (i := 1) rfl
  have t2 := kt.out.cell (i := 2) rfl
  have t3 := kt.out.cell (i := 3) rfl
  have t4 := kt.out.cell (i := 4) rfl
  have t5 := kt.out.cell (i := 5) rfl
  have t6 := kt.out.cell (i := 6) rfl
  have t7 := kt.out.cell (i := 7) rfl
  have t8 := kt.out.cell (i := 8) rfl
  go_wp2_with fail
  clear t0 t1 t2 t3 t4 t5 t6 t7 t8
  (((with_reducible refine (C0.out _).mono ?_); rintro e w0 ⟨rfl, hb0⟩); replace HB := Lib.hid (HB.out.trans (hb0.mono HB.out.size)); replace kt := Lib.hid (kt.out.keep hb0); clear hb0)
  clear C0
  have t0 := kt.out.cell (i := 0) rfl
  have t1 := kt.out.cell (i := 1) rfl
  have t2 := kt.out.cell (i := 2) rfl
  have t3 := kt.out.cell (i := 3) rfl
  have t4 := kt.out.cell (i := 4) rfl
  have t5 := kt.out.cell (i := 5) rfl
  have t6 := kt.out.cell (i := 6) rfl
  have t7 := kt.out.cell (i := 7) rfl
  have t8 := kt.out.cell (i := 8) rfl
  go_wp2_with fail
  clear t0 t1 t2 t3 t4 t5 t6 t7 t8
  (((with_reducible refine (C1.out _).mono ?_); rintro e w1 ⟨rfl, hb1⟩); replace HB := Lib.hid (HB.out.trans (hb1.mono HB.out.size)); replace kt := Lib.hid (kt.out.keep hb1); clear hb1)
  clear C1
  have t0 := kt.out.cell (i := 0) rfl
  have t1 := kt.out.cell (i := 1) rfl
  have t2 := kt.out.cell (i := 2) rfl
  have t3 := kt.out.cell (i := 3) rfl
  have t4 := kt.out.cell (i := 4) rfl
  have t5 := kt.out.cell (i := 5) rfl
  have t6 := kt.out.cell (i := 6) rfl
  have t7 := kt.out.cell (i := 7) rfl
  have t8 := kt.out.cell (i := 8) rfl
  go_wp2_with fail
  clear t0 t1 t2 t3 t4 t5 t6 t7 t8
  (((with_reducible refine (C2.out _).mono ?_); rintro e w2 ⟨rfl, hb2⟩); replace HB := Lib.hid (HB.out.trans (hb2.mono HB.out.size)); replace kt := Lib.hid (kt.out.keep hb2); clear hb2)
  clear C2
  have t0 := kt.out.cell (i := 0) rfl
  have t1 := kt.out.cell (i := 1) rfl
  have t2 := kt.out.cell (i := 2) rfl
  have t3 := kt.out.cell (i := 3) rfl
  have t4 := kt.out.cell (i := 4) rfl
  have t5 := kt.out.cell (i := 5) rfl
  have t6 := kt.out.cell (i := 6) rfl
  have t7 := kt.out.cell (i := 7) rfl
  have t8 := kt.out.cell (i := 8) rfl
  go_wp2_with fail
  clear t0 t1 t2 t3 t4 t5 t6 t7 t8
  have hbr := below_new1 w2 (.cells #[.int .i64 0, .int .i64 0, .int .i64 0, .int .i64 4, .int .i64 0, .int .i64 0, .int .i64 0, .int .i64 4, .int .i64 0, .int .i64 0, .int .i64 0, .int .i64 0, .int .i64 4, .int .i64 0, .int .i64 0, .int .i64 0, .int .i64 4, .int .i64 0] 24)
  replace kt := Lib.hid (kt.out.keep hbr)
  have zr : (w2.alloc (.cells #[.int .i64 0, .int .i64 0, .int .i64 0, .int .i64 4, .int .i64 0, .int .i64 0, .int .i64 0, .int .i64 4, .int .i64 0, .int .i64 0, .int .i64 0, .int .i64 0, .int .i64 4, .int .i64 0, .int .i64 0, .int .i64 0, .int .i64 4, .int .i64 0] 24)).heap.size = w2.heap.size + 1 := by simp
  replace HB := Lib.hid (HB.out.trans (hbr.mono HB.out.size))
  have kr := Lib.hid (Lok.new w2 24 #[.int .i64 0, .int .i64 0, .int .i64 0, .int .i64 4, .int .i64 0, .int .i64 0, .int .i64 0, .int .i64 4, .int .i64 0, .int .i64 0, .int .i64 0, .int .i64 0, .int .i64 4, .int .i64 0, .int .i64 0, .int .i64 0, .int .i64 4, .int .i64 0])
  clear hbr
  generalize w2.alloc (.cells #[.int .i64 0, .int .i64 0, .int .i64 0, .int .i64 4, .int .i64 0, .int .i64 0, .int .i64 0, .int .i64 4, .int .i64 0, .int .i64 0, .int .i64 0, .int .i64 0, .int .i64 4, .int .i64 0, .int .i64 0, .int .i64 0, .int .i64 4, .int .i64 0] 24) = Vr at *
  clear zr
  generalize w2.heap.size = gr at *
  (((with_reducible refine (C3.out _ _ kr.out).mono ?_); rintro e w3 ⟨rfl, hb3⟩); replace HB := Lib.hid (HB.out.trans (hb3.mono HB.out.size)); replace kt := Lib.hid (kt.out.keep hb3); clear hb3)
  clear C3 kr
  have t0 := kt.out.cell (i := 0) rfl
  have t1 := kt.out.cell (i := 1) rfl
  have t2 := kt.out.cell (i := 2) rfl
  have t3 := kt.out.cell (i := 3) rfl
  have t4 := kt.out.cell (i := 4) rfl
  have t5 := kt.out.cell (i := 5) rfl
  have t6 := kt.out.cell (i := 6) rfl
  have t7 := kt.out.cell (i := 7) rfl
  have t8 := kt.out.cell (i := 8) rfl
  go_wp2_with fail
  clear t0 t1 t2 t3 t4 t5 t6 t7 t8
  (((with_reducible refine (C4.out _).mono ?_); rintro e w4 ⟨rfl, hb4⟩); replace HB := Lib.hid (HB.out.trans (hb4.mono HB.out.size)); replace kt := Lib.hid (kt.out.keep hb4); clear hb4)
  clear C4
  have t0 := kt.out.cell (i := 0) rfl
  have t1 := kt.out.cell (i := 1) rfl
  have t2 := kt.out.cell (i := 2) rfl
  have t3 := kt.out.cell (i := 3) rfl
  have t4 := kt.out.cell (i := 4) rfl
  have t5 := kt.out.cell (i := 5) rfl
  have t6 := kt.out.cell (i := 6) rfl
  have t7 := kt.out.cell (i := 7) rfl
  have t8 := kt.out.cell (i := 8) rfl
  go_wp2_with fail
  clear t0 t1 t2 t3 t4 t5 t6 t7 t8
  (((with_reducible refine (C5.out _).mono ?_); rintro e w5 ⟨rfl, hb5⟩); replace HB := Lib.hid (HB.out.trans (hb5.mono HB.out.size)); replace kt := Lib.hid (kt.out.keep hb5); clear hb5)
  clear C5 kt
  go_wp2
  go_ret
  exact ⟨rfl, HB.out⟩
end Go.Proofs.Ythjjaojimefbeaa
