/-
  The law HitApart, walked. (gen/HtM.py)
-/
import Derived.Test.YthjjaojimefbeaaHtK
import Derived.Test.YthjjaojimefbeaaMx3
import Derived.Deep.CutRange
namespace Go.Proofs.Ythjjaojimefbeaa
open Go.RowKit

set_option maxRecDepth 100000 in
set_option maxHeartbeats 16000000 in
theorem law_apart_far (a1 a2 a3 b1 b2 b3 p1 p2 p3 q1 q2 q3 r1 r2 r3 : Int) (ht : (s3 a1 a2 a3 && s3 b1 b2 b3 && s3 p1 p2 p3 && s3 q1 q2 q3 && s3 r1 r2 r3) = false) (w : World) :
    Calls Try.prog 5 #[.agg #[.int .i64 a1, .int .i64 a2, .int .i64 a3], .agg #[.int .i64 b1, .int .i64 b2, .int .i64 b3], .agg #[.int .i64 p1, .int .i64 p2, .int .i64 p3, .int .i64 q1, .int .i64 q2, .int .i64 q3, .int .i64 r1, .int .i64 r2, .int .i64 r3]] w fun e' w' => e' = .returned (.bool true) ∧ Below w.heap.size w w' := by
  have HB := Lib.hid (Below.refl w.heap.size w)
  have C1 := Lib.hid (fun W => hit_any a1 a2 a3 b1 b2 b3 p1 p2 p3 q1 q2 q3 r1 r2 r3 false ht W)
  have S := Lib.hid (fun W => struck_any W)
  have M := Lib.hid (fun g T W h => small3_5 a1 a2 a3 b1 b2 b3 p1 p2 p3 q1 q2 q3 r1 r2 r3 false ht g T W h)
  rw [hV_no, show rE false = 5 from rfl] at C1
  clear ht
  go_enter Try.func5, Try.ntmps5
  go_upto_region 1 with fail
  have hba := below_new1 w (.cells #[.int .i64 a1, .int .i64 a2, .int .i64 a3] 23)
  have za : (w.alloc (.cells #[.int .i64 a1, .int .i64 a2, .int .i64 a3] 23)).heap.size = w.heap.size + 1 := by simp
  have HB := Lib.hid hba
  have ka := Lib.hid (Lok.new w 23 #[.int .i64 a1, .int .i64 a2, .int .i64 a3])
  clear hba
  generalize w.alloc (.cells #[.int .i64 a1, .int .i64 a2, .int .i64 a3] 23) = Va at *
  have hbb := below_new1 Va (.cells #[.int .i64 b1, .int .i64 b2, .int .i64 b3] 23)
  replace ka := Lib.hid (ka.out.keep hbb)
  have zb : (Va.alloc (.cells #[.int .i64 b1, .int .i64 b2, .int .i64 b3] 23)).heap.size = Va.heap.size + 1 := by simp
  replace HB := Lib.hid (HB.out.trans (hbb.mono HB.out.size))
  have kb := Lib.hid (Lok.new Va 23 #[.int .i64 b1, .int .i64 b2, .int .i64 b3])
  clear hbb
  generalize Va.alloc (.cells #[.int .i64 b1, .int .i64 b2, .int .i64 b3] 23) = Vb at *
  rw [za] at kb zb
  have hbt := below_new1 Vb (.cells #[.int .i64 p1, .int .i64 p2, .int .i64 p3, .int .i64 q1, .int .i64 q2, .int .i64 q3, .int .i64 r1, .int .i64 r2, .int .i64 r3] 24)
  replace ka := Lib.hid (ka.out.keep hbt)
  replace kb := Lib.hid (kb.out.keep hbt)
  have zt : (Vb.alloc (.cells #[.int .i64 p1, .int .i64 p2, .int .i64 p3, .int .i64 q1, .int .i64 q2, .int .i64 q3, .int .i64 r1, .int .i64 r2, .int .i64 r3] 24)).heap.size = Vb.heap.size + 1 := by simp
  replace HB := Lib.hid (HB.out.trans (hbt.mono HB.out.size))
  have kt := Lib.hid (Lok.new Vb 24 #[.int .i64 p1, .int .i64 p2, .int .i64 p3, .int .i64 q1, .int .i64 q2, .int .i64 q3, .int .i64 r1, .int .i64 r2, .int .i64 r3])
  clear hbt
  generalize Vb.alloc (.cells #[.int .i64 p1, .int .i64 p2, .int .i64 p3, .int .i64 q1, .int .i64 q2, .int .i64 q3, .int .i64 r1, .int .i64 r2, .int .i64 r3] 24) = Vt at *
  rw [zb] at kt
  clear za zb zt
  have a0 := ka.out.cell (i := 0) rfl
  have a1 := ka.out.cell (i := 1) rfl
  have a2 := ka.out.cell (i := 2) rfl
  have b0 := kb.out.cell (i := 0) rfl
  have b1 := kb.out.cell (i := 1) rfl
  have b2 := kb.out.cell (i := 2) rfl
  have t0 := kt.out.cell (i := 0) rfl
  have t1 := kt.out.cell (i := 1) rfl
  have t2 := kt.out.cell (i := 2) rfl
  have t3 := kt.out.cell (i := 3) rfl
  have t4 := kt.out.cell (i := 4) rfl
  have t5 := kt.out.cell (i := 5) rfl
  have t6 := kt.out.cell (i := 6) rfl
  have t7 := kt.out.cell (i := 7) rfl
  have t8 := kt.out.cell (i := 8) rfl
  go_wp2_with fail
  clear a0 a1 a2 b0 b1 b2 t0 t1 t2 t3 t4 t5 t6 t7 t8
  (((with_reducible refine (C1.out _).mono ?_); rintro e w1 ⟨rfl, hb1⟩); replace HB := Lib.hid (HB.out.trans (hb1.mono HB.out.size)); replace ka := Lib.hid (ka.out.keep hb1); replace kb := Lib.hid (kb.out.keep hb1); replace kt := Lib.hid (kt.out.keep hb1); clear hb1)
  go_wp2_with fail
  (((with_reducible refine (S.out _).mono ?_); rintro e w2 ⟨rfl, hb2⟩); replace HB := Lib.hid (HB.out.trans (hb2.mono HB.out.size)); replace ka := Lib.hid (ka.out.keep hb2); replace kb := Lib.hid (kb.out.keep hb2); replace kt := Lib.hid (kt.out.keep hb2); clear hb2)
  have a0 := ka.out.cell (i := 0) rfl
  have a1 := ka.out.cell (i := 1) rfl
  have a2 := ka.out.cell (i := 2) rfl
  have b0 := kb.out.cell (i := 0) rfl
  have b1 := kb.out.cell (i := 1) rfl
  have b2 := kb.out.cell (i := 2) rfl
  have t0 := kt.out.cell (i := 0) rfl
  have t1 := kt.out.cell (i := 1) rfl
  have t2 := kt.out.cell (i := 2) rfl
  have t3 := kt.out.cell (i := 3) rfl
  have t4 := kt.out.cell (i := 4) rfl
  have t5 := kt.out.cell (i := 5) rfl
  have t6 := kt.out.cell (i := 6) rfl
  have t7 := kt.out.cell (i := 7) rfl
  have t8 := kt.out.cell (i := 8) rfl
  go_wp2_with fail
  clear a0 a1 a2 b0 b1 b2 t0 t1 t2 t3 t4 t5 t6 t7 t8
  have hbr := below_new1 w2 (.cells #[.int .i64 a1, .int .i64 a2, .int .i64 a3, .int .i64 b1, .int .i64 b2, .int .i64 b3, .int .i64 p1, .int .i64 p2, .int .i64 p3, .int .i64 q1, .int .i64 q2, .int .i64 q3, .int .i64 r1, .int .i64 r2, .int .i64 r3] 23)
  replace ka := Lib.hid (ka.out.keep hbr)
  replace kb := Lib.hid (kb.out.keep hbr)
  replace kt := Lib.hid (kt.out.keep hbr)
  have zr : (w2.alloc (.cells #[.int .i64 a1, .int .i64 a2, .int .i64 a3, .int .i64 b1, .int .i64 b2, .int .i64 b3, .int .i64 p1, .int .i64 p2, .int .i64 p3, .int .i64 q1, .int .i64 q2, .int .i64 q3, .int .i64 r1, .int .i64 r2, .int .i64 r3] 23)).heap.size = w2.heap.size + 1 := by simp
  replace HB := Lib.hid (HB.out.trans (hbr.mono HB.out.size))
  have kr := Lib.hid (Lok.new w2 23 #[.int .i64 a1, .int .i64 a2, .int .i64 a3, .int .i64 b1, .int .i64 b2, .int .i64 b3, .int .i64 p1, .int .i64 p2, .int .i64 p3, .int .i64 q1, .int .i64 q2, .int .i64 q3, .int .i64 r1, .int .i64 r2, .int .i64 r3])
  clear hbr
  generalize w2.alloc (.cells #[.int .i64 a1, .int .i64 a2, .int .i64 a3, .int .i64 b1, .int .i64 b2, .int .i64 b3, .int .i64 p1, .int .i64 p2, .int .i64 p3, .int .i64 q1, .int .i64 q2, .int .i64 q3, .int .i64 r1, .int .i64 r2, .int .i64 r3] 23) = Vr at *
  clear zr
  generalize w2.heap.size = gr at *
  (((with_reducible refine (M.out _ _ _ kr.out).mono ?_); rintro e w3 ⟨rfl, hb3⟩); replace HB := Lib.hid (HB.out.trans (hb3.mono HB.out.size)); clear hb3)
  clear M kr ka kb kt
  go_wp2
  go_ret
  exact ⟨rfl, HB.out⟩
/-- Beside along one axis. -/
def bsB (m n x i : Int) : Bool := decide (m < n) || decide (x < i)
theorem bsB_no {m n x i : Int} (h : ¬ m < n ∧ ¬ x < i) : bsB m n x i = false := by unfold bsB; rw [decide_eq_false h.1, decide_eq_false h.2]; rfl
set_option maxRecDepth 100000 in
set_option maxHeartbeats 16000000 in
theorem law_apart_near (a1 a2 a3 b1 b2 b3 p1 p2 p3 q1 q2 q3 r1 r2 r3 : Int) (ht : (s3 a1 a2 a3 && s3 b1 b2 b3 && s3 p1 p2 p3 && s3 q1 q2 q3 && s3 r1 r2 r3) = true) (w : World) :
    Calls Try.prog 5 #[.agg #[.int .i64 a1, .int .i64 a2, .int .i64 a3], .agg #[.int .i64 b1, .int .i64 b2, .int .i64 b3], .agg #[.int .i64 p1, .int .i64 p2, .int .i64 p3, .int .i64 q1, .int .i64 q2, .int .i64 q3, .int .i64 r1, .int .i64 r2, .int .i64 r3]] w fun e' w' => e' = .returned (.bool true) ∧ Below w.heap.size w w' := by
  have HB := Lib.hid (Below.refl w.heap.size w)
  have C1 := Lib.hid (fun W => hit_any a1 a2 a3 b1 b2 b3 p1 p2 p3 q1 q2 q3 r1 r2 r3 true ht W)
  have S := Lib.hid (fun W => struck_any W)
  rw [hV_yes, show rE true = 0 from rfl] at C1
  have hs := ht
  rw [Bool.and_eq_true, Bool.and_eq_true, Bool.and_eq_true, Bool.and_eq_true] at hs
  obtain ⟨⟨⟨⟨ha, hb⟩, hp⟩, hq⟩, hr⟩ := hs
  have C2 := Lib.hid (fun W => side_any a1 a2 a3 p1 p2 p3 q1 q2 q3 r1 r2 r3 true (by rw [ha, hp, hq, hr]; rfl) W)
  have C3 := Lib.hid (fun W => side_any b1 b2 b3 p1 p2 p3 q1 q2 q3 r1 r2 r3 true (by rw [hb, hp, hq, hr]; rfl) W)
  rw [vF_yes, show rE true = 0 from rfl] at C2 C3
  have FA : Hid (htB a1 a2 a3 b1 b2 b3 p1 p2 p3 q1 q2 q3 r1 r2 r3 = true → bsB (max a1 b1) (min (min p1 q1) r1) (max (max p1 q1) r1) (min a1 b1) = false ∧ bsB (max a2 b2) (min (min p2 q2) r2) (max (max p2 q2) r2) (min a2 b2) = false ∧ bsB (max a3 b3) (min (min p3 q3) r3) (max (max p3 q3) r3) (min a3 b3) = false ∧ ordI (vo p1 p2 p3 q1 q2 q3 r1 r2 r3 a1 a2 a3) 0 * ordI (vo p1 p2 p3 q1 q2 q3 r1 r2 r3 b1 b2 b3) 0 < 0) :=
    Lib.hid (fun h => ⟨bsB_no (ht_beside1 h), bsB_no (ht_beside2 h), bsB_no (ht_beside3 h), ht_unlike h⟩)
  have i1 := so_bd (vo p1 p2 p3 q1 q2 q3 r1 r2 r3 a1 a2 a3)
  have i2 := so_bd (vo p1 p2 p3 q1 q2 q3 r1 r2 r3 b1 b2 b3)
  generalize htB a1 a2 a3 b1 b2 b3 p1 p2 p3 q1 q2 q3 r1 r2 r3 = x at *
  generalize ordI (vo p1 p2 p3 q1 q2 q3 r1 r2 r3 a1 a2 a3) 0 = m at *
  generalize ordI (vo p1 p2 p3 q1 q2 q3 r1 r2 r3 b1 b2 b3) 0 = n at *
  have i3 := so_mul i1 i2
  obtain ⟨mn, hmn⟩ : ∃ v, m * n = v := ⟨_, rfl⟩
  rw [hmn] at i3 FA
  have wm : IntKind.i64.wrap (m * n) = mn := by rw [hmn]; exact IntWalk.i64_in _ (by omega)
  clear ht ha hb hp hq hr i1 i2 i3 hmn
  obtain ⟨Ma1, eMa1⟩ : ∃ v, max a1 b1 = v := ⟨_, rfl⟩
  rw [eMa1] at FA
  obtain ⟨Nt1, eNt1⟩ : ∃ v, min (min p1 q1) r1 = v := ⟨_, rfl⟩
  rw [eNt1] at FA
  obtain ⟨Xt1, eXt1⟩ : ∃ v, max (max p1 q1) r1 = v := ⟨_, rfl⟩
  rw [eXt1] at FA
  obtain ⟨Ia1, eIa1⟩ : ∃ v, min a1 b1 = v := ⟨_, rfl⟩
  rw [eIa1] at FA
  obtain ⟨Ma2, eMa2⟩ : ∃ v, max a2 b2 = v := ⟨_, rfl⟩
  rw [eMa2] at FA
  obtain ⟨Nt2, eNt2⟩ : ∃ v, min (min p2 q2) r2 = v := ⟨_, rfl⟩
  rw [eNt2] at FA
  obtain ⟨Xt2, eXt2⟩ : ∃ v, max (max p2 q2) r2 = v := ⟨_, rfl⟩
  rw [eXt2] at FA
  obtain ⟨Ia2, eIa2⟩ : ∃ v, min a2 b2 = v := ⟨_, rfl⟩
  rw [eIa2] at FA
  obtain ⟨Ma3, eMa3⟩ : ∃ v, max a3 b3 = v := ⟨_, rfl⟩
  rw [eMa3] at FA
  obtain ⟨Nt3, eNt3⟩ : ∃ v, min (min p3 q3) r3 = v := ⟨_, rfl⟩
  rw [eNt3] at FA
  obtain ⟨Xt3, eXt3⟩ : ∃ v, max (max p3 q3) r3 = v := ⟨_, rfl⟩
  rw [eXt3] at FA
  obtain ⟨Ia3, eIa3⟩ : ∃ v, min a3 b3 = v := ⟨_, rfl⟩
  rw [eIa3] at FA
  go_enter Try.func5, Try.ntmps5
  go_upto_region 1 with fail
  have hba := below_new1 w (.cells #[.int .i64 a1, .int .i64 a2, .int .i64 a3] 23)
  have za : (w.alloc (.cells #[.int .i64 a1, .int .i64 a2, .int .i64 a3] 23)).heap.size = w.heap.size + 1 := by simp
  have HB := Lib.hid hba
  have ka := Lib.hid (Lok.new w 23 #[.int .i64 a1, .int .i64 a2, .int .i64 a3])
  clear hba
  generalize w.alloc (.cells #[.int .i64 a1, .int .i64 a2, .int .i64 a3] 23) = Va at *
  have hbb := below_new1 Va (.cells #[.int .i64 b1, .int .i64 b2, .int .i64 b3] 23)
  replace ka := Lib.hid (ka.out.keep hbb)
  have zb : (Va.alloc (.cells #[.int .i64 b1, .int .i64 b2, .int .i64 b3] 23)).heap.size = Va.heap.size + 1 := by simp
  replace HB := Lib.hid (HB.out.trans (hbb.mono HB.out.size))
  have kb := Lib.hid (Lok.new Va 23 #[.int .i64 b1, .int .i64 b2, .int .i64 b3])
  clear hbb
  generalize Va.alloc (.cells #[.int .i64 b1, .int .i64 b2, .int .i64 b3] 23) = Vb at *
  rw [za] at kb zb
  have hbt := below_new1 Vb (.cells #[.int .i64 p1, .int .i64 p2, .int .i64 p3, .int .i64 q1, .int .i64 q2, .int .i64 q3, .int .i64 r1, .int .i64 r2, .int .i64 r3] 24)
  replace ka := Lib.hid (ka.out.keep hbt)
  replace kb := Lib.hid (kb.out.keep hbt)
  have zt : (Vb.alloc (.cells #[.int .i64 p1, .int .i64 p2, .int .i64 p3, .int .i64 q1, .int .i64 q2, .int .i64 q3, .int .i64 r1, .int .i64 r2, .int .i64 r3] 24)).heap.size = Vb.heap.size + 1 := by simp
  replace HB := Lib.hid (HB.out.trans (hbt.mono HB.out.size))
  have kt := Lib.hid (Lok.new Vb 24 #[.int .i64 p1, .int .i64 p2, .int .i64 p3, .int .i64 q1, .int .i64 q2, .int .i64 q3, .int .i64 r1, .int .i64 r2, .int .i64 r3])
  clear hbt
  generalize Vb.alloc (.cells #[.int .i64 p1, .int .i64 p2, .int .i64 p3, .int .i64 q1, .int .i64 q2, .int .i64 q3, .int .i64 r1, .int .i64 r2, .int .i64 r3] 24) = Vt at *
  rw [zb] at kt
  clear za zb zt
  have a0 := ka.out.cell (i := 0) rfl
  have a1 := ka.out.cell (i := 1) rfl
  have a2 := ka.out.cell (i := 2) rfl
  have b0 := kb.out.cell (i := 0) rfl
  have b1 := kb.out.cell (i := 1) rfl
  have b2 := kb.out.cell (i := 2) rfl
  have t0 := kt.out.cell (i := 0) rfl
  have t1 := kt.out.cell (i := 1) rfl
  have t2 := kt.out.cell (i := 2) rfl
  have t3 := kt.out.cell (i := 3) rfl
  have t4 := kt.out.cell (i := 4) rfl
  have t5 := kt.out.cell (i := 5) rfl
  have t6 := kt.out.cell (i := 6) rfl
  have t7 := kt.out.cell (i := 7) rfl
  have t8 := kt.out.cell (i := 8) rfl
  go_wp2_with fail
  clear a0 a1 a2 b0 b1 b2 t0 t1 t2 t3 t4 t5 t6 t7 t8
  (((with_reducible refine (C1.out _).mono ?_); rintro e w1 ⟨rfl, hb1⟩); replace HB := Lib.hid (HB.out.trans (hb1.mono HB.out.size)); replace ka := Lib.hid (ka.out.keep hb1); replace kb := Lib.hid (kb.out.keep hb1); replace kt := Lib.hid (kt.out.keep hb1); clear hb1)
  clear C1
  obtain ⟨y1, hy1⟩ : ∃ v, bsB Ma1 Nt1 Xt1 Ia1 = v := ⟨_, rfl⟩
  obtain ⟨y2, hy2⟩ : ∃ v, bsB Ma2 Nt2 Xt2 Ia2 = v := ⟨_, rfl⟩
  obtain ⟨y3, hy3⟩ : ∃ v, bsB Ma3 Nt3 Xt3 Ia3 = v := ⟨_, rfl⟩
  rw [hy1, hy2, hy3] at FA
  replace hy1 := Lib.hid hy1
  replace hy2 := Lib.hid hy2
  replace hy3 := Lib.hid hy3
  go_upto_region 4 with fail
  go_cut [9] from 41 to 74 (fun c wx => c = .bool y1 ∧ w1 = wx)
  case first =>
    clear S C2 C3 hy2 hy3 wm
    clear eMa2 eNt2 eXt2 eIa2 eMa3 eNt3 eXt3 eIa3
    have E := hy1.out
    unfold bsB at E
    cases g : decide (Ma1 < Nt1) with
    | true =>
      obtain rfl : true = y1 := by rw [← E, g]; rfl
      clear E FA
      have a0 := ka.out.cell (i := 0) rfl
      have a1 := ka.out.cell (i := 1) rfl
      have a2 := ka.out.cell (i := 2) rfl
      have b0 := kb.out.cell (i := 0) rfl
      have b1 := kb.out.cell (i := 1) rfl
      have b2 := kb.out.cell (i := 2) rfl
      have t0 := kt.out.cell (i := 0) rfl
      have t1 := kt.out.cell (i := 1) rfl
      have t2 := kt.out.cell (i := 2) rfl
      have t3 := kt.out.cell (i := 3) rfl
      have t4 := kt.out.cell (i := 4) rfl
      have t5 := kt.out.cell (i := 5) rfl
      have t6 := kt.out.cell (i := 6) rfl
      have t7 := kt.out.cell (i := 7) rfl
      have t8 := kt.out.cell (i := 8) rfl
      go_wp2_with fail
      go_meet
      case rel => exact ⟨rfl, rfl⟩
    | false =>
      obtain rfl : decide (Xt1 < Ia1) = y1 := by rw [← E, g]; rfl
      clear E FA
      have a0 := ka.out.cell (i := 0) rfl
      have a1 := ka.out.cell (i := 1) rfl
      have a2 := ka.out.cell (i := 2) rfl
      have b0 := kb.out.cell (i := 0) rfl
      have b1 := kb.out.cell (i := 1) rfl
      have b2 := kb.out.cell (i := 2) rfl
      have t0 := kt.out.cell (i := 0) rfl
      have t1 := kt.out.cell (i := 1) rfl
      have t2 := kt.out.cell (i := 2) rfl
      have t3 := kt.out.cell (i := 3) rfl
      have t4 := kt.out.cell (i := 4) rfl
      have t5 := kt.out.cell (i := 5) rfl
      have t6 := kt.out.cell (i := 6) rfl
      have t7 := kt.out.cell (i := 7) rfl
      have t8 := kt.out.cell (i := 8) rfl
      go_wp2_with fail
      go_meet
      case rel => exact ⟨rfl, rfl⟩
  case rest =>
    obtain ⟨rfl, rfl⟩ := hcut
    skip
    go_upto_region 5 with fail
    go_cut [9] from 75 to 111 (fun c wx => c = .bool (y1 || y2) ∧ w1 = wx)
    case first =>
      clear S C2 C3 wm
      clear eMa1 eNt1 eXt1 eIa1 eMa3 eNt3 eXt3 eIa3
      cases hz : y1 with
      | true =>
        skip
        have a0 := ka.out.cell (i := 0) rfl
        have a1 := ka.out.cell (i := 1) rfl
        have a2 := ka.out.cell (i := 2) rfl
        have b0 := kb.out.cell (i := 0) rfl
        have b1 := kb.out.cell (i := 1) rfl
        have b2 := kb.out.cell (i := 2) rfl
        have t0 := kt.out.cell (i := 0) rfl
        have t1 := kt.out.cell (i := 1) rfl
        have t2 := kt.out.cell (i := 2) rfl
        have t3 := kt.out.cell (i := 3) rfl
        have t4 := kt.out.cell (i := 4) rfl
        have t5 := kt.out.cell (i := 5) rfl
        have t6 := kt.out.cell (i := 6) rfl
        have t7 := kt.out.cell (i := 7) rfl
        have t8 := kt.out.cell (i := 8) rfl
        go_wp2_with fail
        go_meet
        case rel => exact ⟨by rw [hz, Bool.true_or], rfl⟩
      | false =>
        have E := hy2.out
        unfold bsB at E
        cases g : decide (Ma2 < Nt2) with
        | true =>
          obtain rfl : true = y2 := by rw [← E, g]; rfl
          clear E FA
          have a0 := ka.out.cell (i := 0) rfl
          have a1 := ka.out.cell (i := 1) rfl
          have a2 := ka.out.cell (i := 2) rfl
          have b0 := kb.out.cell (i := 0) rfl
          have b1 := kb.out.cell (i := 1) rfl
          have b2 := kb.out.cell (i := 2) rfl
          have t0 := kt.out.cell (i := 0) rfl
          have t1 := kt.out.cell (i := 1) rfl
          have t2 := kt.out.cell (i := 2) rfl
          have t3 := kt.out.cell (i := 3) rfl
          have t4 := kt.out.cell (i := 4) rfl
          have t5 := kt.out.cell (i := 5) rfl
          have t6 := kt.out.cell (i := 6) rfl
          have t7 := kt.out.cell (i := 7) rfl
          have t8 := kt.out.cell (i := 8) rfl
          go_wp2_with fail
          go_meet
          case rel => exact ⟨by rw [hz]; rfl, rfl⟩
        | false =>
          obtain rfl : decide (Xt2 < Ia2) = y2 := by rw [← E, g]; rfl
          clear E FA
          have a0 := ka.out.cell (i := 0) rfl
          have a1 := ka.out.cell (i := 1) rfl
          have a2 := ka.out.cell (i := 2) rfl
          have b0 := kb.out.cell (i := 0) rfl
          have b1 := kb.out.cell (i := 1) rfl
          have b2 := kb.out.cell (i := 2) rfl
          have t0 := kt.out.cell (i := 0) rfl
          have t1 := kt.out.cell (i := 1) rfl
          have t2 := kt.out.cell (i := 2) rfl
          have t3 := kt.out.cell (i := 3) rfl
          have t4 := kt.out.cell (i := 4) rfl
          have t5 := kt.out.cell (i := 5) rfl
          have t6 := kt.out.cell (i := 6) rfl
          have t7 := kt.out.cell (i := 7) rfl
          have t8 := kt.out.cell (i := 8) rfl
          go_wp2_with fail
          go_meet
          case rel => exact ⟨by rw [hz]; rfl, rfl⟩
    case rest =>
      obtain ⟨rfl, rfl⟩ := hcut
      obtain ⟨z, hz⟩ : ∃ z, (y1 || y2) = z := ⟨_, rfl⟩
      rw [hz]
      replace hz := Lib.hid hz
      go_upto_region 6 with fail
      go_cut [9] from 112 to 148 (fun c wx => c = .bool (z || y3) ∧ w1 = wx)
      case first =>
        clear S C2 C3 wm
        clear eMa1 eNt1 eXt1 eIa1 eMa2 eNt2 eXt2 eIa2
        cases hz : z with
        | true =>
          skip
          have a0 := ka.out.cell (i := 0) rfl
          have a1 := ka.out.cell (i := 1) rfl
          have a2 := ka.out.cell (i := 2) rfl
          have b0 := kb.out.cell (i := 0) rfl
          have b1 := kb.out.cell (i := 1) rfl
          have b2 := kb.out.cell (i := 2) rfl
          have t0 := kt.out.cell (i := 0) rfl
          have t1 := kt.out.cell (i := 1) rfl
          have t2 := kt.out.cell (i := 2) rfl
          have t3 := kt.out.cell (i := 3) rfl
          have t4 := kt.out.cell (i := 4) rfl
          have t5 := kt.out.cell (i := 5) rfl
          have t6 := kt.out.cell (i := 6) rfl
          have t7 := kt.out.cell (i := 7) rfl
          have t8 := kt.out.cell (i := 8) rfl
          go_wp2_with fail
          go_meet
          case rel => exact ⟨by rw [hz, Bool.true_or], rfl⟩
        | false =>
          have E := hy3.out
          unfold bsB at E
          cases g : decide (Ma3 < Nt3) with
          | true =>
            obtain rfl : true = y3 := by rw [← E, g]; rfl
            clear E FA
            have a0 := ka.out.cell (i := 0) rfl
            have a1 := ka.out.cell (i := 1) rfl
            have a2 := ka.out.cell (i := 2) rfl
            have b0 := kb.out.cell (i := 0) rfl
            have b1 := kb.out.cell (i := 1) rfl
            have b2 := kb.out.cell (i := 2) rfl
            have t0 := kt.out.cell (i := 0) rfl
            have t1 := kt.out.cell (i := 1) rfl
            have t2 := kt.out.cell (i := 2) rfl
            have t3 := kt.out.cell (i := 3) rfl
            have t4 := kt.out.cell (i := 4) rfl
            have t5 := kt.out.cell (i := 5) rfl
            have t6 := kt.out.cell (i := 6) rfl
            have t7 := kt.out.cell (i := 7) rfl
            have t8 := kt.out.cell (i := 8) rfl
            go_wp2_with fail
            go_meet
            case rel => exact ⟨by rw [hz]; rfl, rfl⟩
          | false =>
            obtain rfl : decide (Xt3 < Ia3) = y3 := by rw [← E, g]; rfl
            clear E FA
            have a0 := ka.out.cell (i := 0) rfl
            have a1 := ka.out.cell (i := 1) rfl
            have a2 := ka.out.cell (i := 2) rfl
            have b0 := kb.out.cell (i := 0) rfl
            have b1 := kb.out.cell (i := 1) rfl
            have b2 := kb.out.cell (i := 2) rfl
            have t0 := kt.out.cell (i := 0) rfl
            have t1 := kt.out.cell (i := 1) rfl
            have t2 := kt.out.cell (i := 2) rfl
            have t3 := kt.out.cell (i := 3) rfl
            have t4 := kt.out.cell (i := 4) rfl
            have t5 := kt.out.cell (i := 5) rfl
            have t6 := kt.out.cell (i := 6) rfl
            have t7 := kt.out.cell (i := 7) rfl
            have t8 := kt.out.cell (i := 8) rfl
            go_wp2_with fail
            go_meet
            case rel => exact ⟨by rw [hz]; rfl, rfl⟩
      case rest =>
        obtain ⟨rfl, rfl⟩ := hcut
        obtain ⟨q, hq⟩ : ∃ q, (z || y3) = q := ⟨_, rfl⟩
        rw [hq]
        have FB : Hid (x = true → q = false ∧ mn < 0) := Lib.hid (fun h => by
          obtain ⟨f1, f2, f3, f4⟩ := FA.out h
          refine ⟨?_, f4⟩
          rw [← hq, ← hz.out, f1, f2, f3]; rfl)
        clear hq hz hy1 hy2 hy3 FA eMa1 eNt1 eXt1 eIa1 eMa2 eNt2 eXt2 eIa2 eMa3 eNt3 eXt3 eIa3
        have a0 := ka.out.cell (i := 0) rfl
        have a1 := ka.out.cell (i := 1) rfl
        have a2 := ka.out.cell (i := 2) rfl
        have t0 := kt.out.cell (i := 0) rfl
        have t1 := kt.out.cell (i := 1) rfl
        have t2 := kt.out.cell (i := 2) rfl
        have t3 := kt.out.cell (i := 3) rfl
        have t4 := kt.out.cell (i := 4) rfl
        have t5 := kt.out.cell (i := 5) rfl
        have t6 := kt.out.cell (i := 6) rfl
        have t7 := kt.out.cell (i := 7) rfl
        have t8 := kt.out.cell (i := 8) rfl
        go_wp2_with fail
        clear a0 a1 a2 t0 t1 t2 t3 t4 t5 t6 t7 t8
        (((with_reducible refine (C2.out _).mono ?_); rintro e w2 ⟨rfl, hb2⟩); replace HB := Lib.hid (HB.out.trans (hb2.mono HB.out.size)); replace ka := Lib.hid (ka.out.keep hb2); replace kb := Lib.hid (kb.out.keep hb2); replace kt := Lib.hid (kt.out.keep hb2); clear hb2)
        have b0 := kb.out.cell (i := 0) rfl
        have b1 := kb.out.cell (i := 1) rfl
        have b2 := kb.out.cell (i := 2) rfl
        have t0 := kt.out.cell (i := 0) rfl
        have t1 := kt.out.cell (i := 1) rfl
        have t2 := kt.out.cell (i := 2) rfl
        have t3 := kt.out.cell (i := 3) rfl
        have t4 := kt.out.cell (i := 4) rfl
        have t5 := kt.out.cell (i := 5) rfl
        have t6 := kt.out.cell (i := 6) rfl
        have t7 := kt.out.cell (i := 7) rfl
        have t8 := kt.out.cell (i := 8) rfl
        go_wp2_with fail
        clear b0 b1 b2 t0 t1 t2 t3 t4 t5 t6 t7 t8
        (((with_reducible refine (C3.out _).mono ?_); rintro e w3 ⟨rfl, hb3⟩); replace HB := Lib.hid (HB.out.trans (hb3.mono HB.out.size)); replace ka := Lib.hid (ka.out.keep hb3); replace kb := Lib.hid (kb.out.keep hb3); replace kt := Lib.hid (kt.out.keep hb3); clear hb3)
        clear C2 C3 ka kb kt
        go_wp2_with fail
        (((with_reducible refine (S.out _).mono ?_); rintro e w4 ⟨rfl, hb4⟩); replace HB := Lib.hid (HB.out.trans (hb4.mono HB.out.size)); clear hb4)
        clear S
        cases hx : x with
        | true =>
          obtain ⟨rfl, f4⟩ := FB.out hx
          have d4 : decide (mn < 0) = true := decide_eq_true f4
          clear FB hx f4
          go_wp2
          go_ret
          exact ⟨rfl, HB.out⟩
        | false =>
          clear FB hx
          cases q with
          | true =>
            cases d4 : decide (mn < 0) with
            | true =>
              go_wp2
              go_ret
              exact ⟨rfl, HB.out⟩
            | false =>
              go_wp2
              go_ret
              exact ⟨rfl, HB.out⟩
          | false =>
            cases d4 : decide (mn < 0) with
            | true =>
              go_wp2
              go_ret
              exact ⟨rfl, HB.out⟩
            | false =>
              go_wp2
              go_ret
              exact ⟨rfl, HB.out⟩
theorem law_apart (a1 a2 a3 b1 b2 b3 p1 p2 p3 q1 q2 q3 r1 r2 r3 : Int) (w : World) :
    Calls Try.prog 5 #[.agg #[.int .i64 a1, .int .i64 a2, .int .i64 a3], .agg #[.int .i64 b1, .int .i64 b2, .int .i64 b3], .agg #[.int .i64 p1, .int .i64 p2, .int .i64 p3, .int .i64 q1, .int .i64 q2, .int .i64 q3, .int .i64 r1, .int .i64 r2, .int .i64 r3]] w fun e' w' => e' = .returned (.bool true) ∧ Below w.heap.size w w' := by
  cases ht : (s3 a1 a2 a3 && s3 b1 b2 b3 && s3 p1 p2 p3 && s3 q1 q2 q3 && s3 r1 r2 r3) with
  | false => exact law_apart_far a1 a2 a3 b1 b2 b3 p1 p2 p3 q1 q2 q3 r1 r2 r3 ht w
  | true => exact law_apart_near a1 a2 a3 b1 b2 b3 p1 p2 p3 q1 q2 q3 r1 r2 r3 ht w
end Go.Proofs.Ythjjaojimefbeaa
