/-
  Contracts of package slab: Is, Has, Longest. (gen/SbB.py)
-/
import Derived.Test.YtfghjfgdjlkooaaSbA
namespace Go.Proofs.Ytfghjfgdjlkooaa
open Go.RowKit

set_option maxRecDepth 100000 in
set_option maxHeartbeats 4000000 in
theorem slis_any (l1 l2 l3 h1 h2 h3 : Int) (w : World) :
    Calls Try.prog 17 #[.agg #[.int .i64 l1, .int .i64 l2, .int .i64 l3, .int .i64 h1, .int .i64 h2, .int .i64 h3]] w fun e' w' => e' = .returned (.bool (bxR l1 l2 l3 h1 h2 h3)) ∧ Below w.heap.size w w' := by
  have HB := Lib.hid (Below.refl w.heap.size w)
  unfold bxR
  generalize ht : (s3 l1 l2 l3 && s3 h1 h2 h3) = t
  have S := Lib.hid (fun g T W h => small3_2 l1 l2 l3 h1 h2 h3 t ht g T W h)
  clear ht
  cases t with
  | false =>
    rw [Bool.false_and]
    go_enter Try.func17, Try.ntmps17
    go_upto_region 1 with fail
    have hba := below_new1 w (.cells #[.int .i64 l1, .int .i64 l2, .int .i64 l3, .int .i64 h1, .int .i64 h2, .int .i64 h3] 25)
    have za : (w.alloc (.cells #[.int .i64 l1, .int .i64 l2, .int .i64 l3, .int .i64 h1, .int .i64 h2, .int .i64 h3] 25)).heap.size = w.heap.size + 1 := by simp
    have HB := Lib.hid hba
    have ka := Lib.hid (Lok.new w 25 #[.int .i64 l1, .int .i64 l2, .int .i64 l3, .int .i64 h1, .int .i64 h2, .int .i64 h3])
    clear hba
    generalize w.alloc (.cells #[.int .i64 l1, .int .i64 l2, .int .i64 l3, .int .i64 h1, .int .i64 h2, .int .i64 h3] 25) = Va at *
    clear za
    have a0 := ka.out.cell (i := 0) rfl
    have a1 := ka.out.cell (i := 1) rfl
    have a2 := ka.out.cell (i := 2) rfl
    have a3 := ka.out.cell (i := 3) rfl
    have a4 := ka.out.cell (i := 4) rfl
    have a5 := ka.out.cell (i := 5) rfl
    go_wp2_with fail
    clear a0 a1 a2 a3 a4 a5
    have hbr := below_new1 Va (.cells #[.int .i64 l1, .int .i64 l2, .int .i64 l3, .int .i64 h1, .int .i64 h2, .int .i64 h3] 23)
    replace ka := Lib.hid (ka.out.keep hbr)
    have zr : (Va.alloc (.cells #[.int .i64 l1, .int .i64 l2, .int .i64 l3, .int .i64 h1, .int .i64 h2, .int .i64 h3] 23)).heap.size = Va.heap.size + 1 := by simp
    replace HB := Lib.hid (HB.out.trans (hbr.mono HB.out.size))
    have kr := Lib.hid (Lok.new Va 23 #[.int .i64 l1, .int .i64 l2, .int .i64 l3, .int .i64 h1, .int .i64 h2, .int .i64 h3])
    clear hbr
    generalize Va.alloc (.cells #[.int .i64 l1, .int .i64 l2, .int .i64 l3, .int .i64 h1, .int .i64 h2, .int .i64 h3] 23) = Vr at *
    clear zr
    generalize Va.heap.size = gr at *
    (((with_reducible refine (S.out _ _ _ kr.out).mono ?_); rintro e w1 ⟨rfl, hb1⟩); replace HB := Lib.hid (HB.out.trans (hb1.mono HB.out.size)); clear hb1)
    clear kr ka
    go_wp2
    go_ret
    exact ⟨rfl, HB.out⟩
  | true =>
    rw [Bool.true_and]
    have RI := Lib.hid (fun g T W h => rising_2 l1 l2 l3 h1 h2 h3 g T W h)
    generalize le3 l1 l2 l3 h1 h2 h3 = u at *
    go_enter Try.func17, Try.ntmps17
    go_upto_region 1 with fail
    have hba := below_new1 w (.cells #[.int .i64 l1, .int .i64 l2, .int .i64 l3, .int .i64 h1, .int .i64 h2, .int .i64 h3] 25)
    have za : (w.alloc (.cells #[.int .i64 l1, .int .i64 l2, .int .i64 l3, .int .i64 h1, .int .i64 h2, .int .i64 h3] 25)).heap.size = w.heap.size + 1 := by simp
    have HB := Lib.hid hba
    have ka := Lib.hid (Lok.new w 25 #[.int .i64 l1, .int .i64 l2, .int .i64 l3, .int .i64 h1, .int .i64 h2, .int .i64 h3])
    clear hba
    generalize w.alloc (.cells #[.int .i64 l1, .int .i64 l2, .int .i64 l3, .int .i64 h1, .int .i64 h2, .int .i64 h3] 25) = Va at *
    clear za
    have a0 := ka.out.cell (i := 0) rfl
    have a1 := ka.out.cell (i := 1) rfl
    have a2 := ka.out.cell (i := 2) rfl
    have a3 := ka.out.cell (i := 3) rfl
    have a4 := ka.out.cell (i := 4) rfl
    have a5 := ka.out.cell (i := 5) rfl
    go_wp2_with fail
    clear a0 a1 a2 a3 a4 a5
    have hbr := below_new1 Va (.cells #[.int .i64 l1, .int .i64 l2, .int .i64 l3, .int .i64 h1, .int .i64 h2, .int .i64 h3] 23)
    replace ka := Lib.hid (ka.out.keep hbr)
    have zr : (Va.alloc (.cells #[.int .i64 l1, .int .i64 l2, .int .i64 l3, .int .i64 h1, .int .i64 h2, .int .i64 h3] 23)).heap.size = Va.heap.size + 1 := by simp
    replace HB := Lib.hid (HB.out.trans (hbr.mono HB.out.size))
    have kr := Lib.hid (Lok.new Va 23 #[.int .i64 l1, .int .i64 l2, .int .i64 l3, .int .i64 h1, .int .i64 h2, .int .i64 h3])
    clear hbr
    generalize Va.alloc (.cells #[.int .i64 l1, .int .i64 l2, .int .i64 l3, .int .i64 h1, .int .i64 h2, .int .i64 h3] 23) = Vr at *
    clear zr
    generalize Va.heap.size = gr at *
    (((with_reducible refine (S.out _ _ _ kr.out).mono ?_); rintro e w1 ⟨rfl, hb1⟩); replace HB := Lib.hid (HB.out.trans (hb1.mono HB.out.size)); replace ka := Lib.hid (ka.out.keep hb1); clear hb1)
    clear kr
    have a0 := ka.out.cell (i := 0) rfl
    have a1 := ka.out.cell (i := 1) rfl
    have a2 := ka.out.cell (i := 2) rfl
    have a3 := ka.out.cell (i := 3) rfl
    have a4 := ka.out.cell (i := 4) rfl
    have a5 := ka.out.cell (i := 5) rfl
    go_wp2_with fail
    clear a0 a1 a2 a3 a4 a5
    have hbq := below_new1 w1 (.cells #[.int .i64 l1, .int .i64 l2, .int .i64 l3, .int .i64 h1, .int .i64 h2, .int .i64 h3] 23)
    replace ka := Lib.hid (ka.out.keep hbq)
    have zq : (w1.alloc (.cells #[.int .i64 l1, .int .i64 l2, .int .i64 l3, .int .i64 h1, .int .i64 h2, .int .i64 h3] 23)).heap.size = w1.heap.size + 1 := by simp
    replace HB := Lib.hid (HB.out.trans (hbq.mono HB.out.size))
    have kq := Lib.hid (Lok.new w1 23 #[.int .i64 l1, .int .i64 l2, .int .i64 l3, .int .i64 h1, .int .i64 h2, .int .i64 h3])
    clear hbq
    generalize w1.alloc (.cells #[.int .i64 l1, .int .i64 l2, .int .i64 l3, .int .i64 h1, .int .i64 h2, .int .i64 h3] 23) = Vq at *
    clear zq
    generalize w1.heap.size = gq at *
    (((with_reducible refine (RI.out _ _ _ kq.out).mono ?_); rintro e w2 ⟨rfl, hb2⟩); replace HB := Lib.hid (HB.out.trans (hb2.mono HB.out.size)); clear hb2)
    clear kq ka
    go_wp2
    go_ret
    exact ⟨rfl, HB.out⟩
set_option maxRecDepth 100000 in
set_option maxHeartbeats 4000000 in
theorem slhas_any (l1 l2 l3 h1 h2 h3 p1 p2 p3 : Int) (w : World) :
    Calls Try.prog 19 #[.agg #[.int .i64 l1, .int .i64 l2, .int .i64 l3, .int .i64 h1, .int .i64 h2, .int .i64 h3], .agg #[.int .i64 p1, .int .i64 p2, .int .i64 p3]] w fun e' w' => e' = .returned (.bool (bxH l1 l2 l3 h1 h2 h3 p1 p2 p3)) ∧ Below w.heap.size w w' := by
  have HB := Lib.hid (Below.refl w.heap.size w)
  unfold bxH
  have S := Lib.hid (fun W => slis_any l1 l2 l3 h1 h2 h3 W)
  generalize bxR l1 l2 l3 h1 h2 h3 = t at *
  cases t with
  | false =>
    rw [Bool.false_and]
    go_enter Try.func19, Try.ntmps19
    go_upto_region 1 with fail
    have hba := below_new1 w (.cells #[.int .i64 l1, .int .i64 l2, .int .i64 l3, .int .i64 h1, .int .i64 h2, .int .i64 h3] 25)
    have za : (w.alloc (.cells #[.int .i64 l1, .int .i64 l2, .int .i64 l3, .int .i64 h1, .int .i64 h2, .int .i64 h3] 25)).heap.size = w.heap.size + 1 := by simp
    have HB := Lib.hid hba
    have ka := Lib.hid (Lok.new w 25 #[.int .i64 l1, .int .i64 l2, .int .i64 l3, .int .i64 h1, .int .i64 h2, .int .i64 h3])
    clear hba
    generalize w.alloc (.cells #[.int .i64 l1, .int .i64 l2, .int .i64 l3, .int .i64 h1, .int .i64 h2, .int .i64 h3] 25) = Va at *
    have hbb := below_new1 Va (.cells #[.int .i64 p1, .int .i64 p2, .int .i64 p3] 23)
    replace ka := Lib.hid (ka.out.keep hbb)
    have zb : (Va.alloc (.cells #[.int .i64 p1, .int .i64 p2, .int .i64 p3] 23)).heap.size = Va.heap.size + 1 := by simp
    replace HB := Lib.hid (HB.out.trans (hbb.mono HB.out.size))
    have kb := Lib.hid (Lok.new Va 23 #[.int .i64 p1, .int .i64 p2, .int .i64 p3])
    clear hbb
    generalize Va.alloc (.cells #[.int .i64 p1, .int .i64 p2, .int .i64 p3] 23) = Vb at *
    rw [za] at kb
    clear za zb
    have a0 := ka.out.cell (i := 0) rfl
    have a1 := ka.out.cell (i := 1) rfl
    have a2 := ka.out.cell (i := 2) rfl
    have a3 := ka.out.cell (i := 3) rfl
    have a4 := ka.out.cell (i := 4) rfl
    have a5 := ka.out.cell (i := 5) rfl
    go_wp2_with fail
    clear a0 a1 a2 a3 a4 a5
    (((with_reducible refine (S.out _).mono ?_); rintro e w1 ⟨rfl, hb1⟩); replace HB := Lib.hid (HB.out.trans (hb1.mono HB.out.size)); replace ka := Lib.hid (ka.out.keep hb1); replace kb := Lib.hid (kb.out.keep hb1); clear hb1)
    clear ka kb
    go_wp2
    go_ret
    exact ⟨rfl, HB.out⟩
  | true =>
    rw [Bool.true_and]
    have RI := Lib.hid (fun g T W h => rising_3 l1 l2 l3 p1 p2 p3 h1 h2 h3 g T W h)
    generalize (le3 l1 l2 l3 p1 p2 p3 && le3 p1 p2 p3 h1 h2 h3) = u at *
    go_enter Try.func19, Try.ntmps19
    go_upto_region 1 with fail
    have hba := below_new1 w (.cells #[.int .i64 l1, .int .i64 l2, .int .i64 l3, .int .i64 h1, .int .i64 h2, .int .i64 h3] 25)
    have za : (w.alloc (.cells #[.int .i64 l1, .int .i64 l2, .int .i64 l3, .int .i64 h1, .int .i64 h2, .int .i64 h3] 25)).heap.size = w.heap.size + 1 := by simp
    have HB := Lib.hid hba
    have ka := Lib.hid (Lok.new w 25 #[.int .i64 l1, .int .i64 l2, .int .i64 l3, .int .i64 h1, .int .i64 h2, .int .i64 h3])
    clear hba
    generalize w.alloc (.cells #[.int .i64 l1, .int .i64 l2, .int .i64 l3, .int .i64 h1, .int .i64 h2, .int .i64 h3] 25) = Va at *
    have hbb := below_new1 Va (.cells #[.int .i64 p1, .int .i64 p2, .int .i64 p3] 23)
    replace ka := Lib.hid (ka.out.keep hbb)
    have zb : (Va.alloc (.cells #[.int .i64 p1, .int .i64 p2, .int .i64 p3] 23)).heap.size = Va.heap.size + 1 := by simp
    replace HB := Lib.hid (HB.out.trans (hbb.mono HB.out.size))
    have kb := Lib.hid (Lok.new Va 23 #[.int .i64 p1, .int .i64 p2, .int .i64 p3])
    clear hbb
    generalize Va.alloc (.cells #[.int .i64 p1, .int .i64 p2, .int .i64 p3] 23) = Vb at *
    rw [za] at kb
    clear za zb
    have a0 := ka.out.cell (i := 0) rfl
    have a1 := ka.out.cell (i := 1) rfl
    have a2 := ka.out.cell (i := 2) rfl
    have a3 := ka.out.cell (i := 3) rfl
    have a4 := ka.out.cell (i := 4) rfl
    have a5 := ka.out.cell (i := 5) rfl
    go_wp2_with fail
    clear a0 a1 a2 a3 a4 a5
    (((with_reducible refine (S.out _).mono ?_); rintro e w1 ⟨rfl, hb1⟩); replace HB := Lib.hid (HB.out.trans (hb1.mono HB.out.size)); replace ka := Lib.hid (ka.out.keep hb1); replace kb := Lib.hid (kb.out.keep hb1); clear hb1)
    have a0 := ka.out.cell (i := 0) rfl
    have a1 := ka.out.cell (i := 1) rfl
    have a2 := ka.out.cell (i := 2) rfl
    have a3 := ka.out.cell (i := 3) rfl
    have a4 := ka.out.cell (i := 4) rfl
    have a5 := ka.out.cell (i := 5) rfl
    have b0 := kb.out.cell (i := 0) rfl
    have b1 := kb.out.cell (i := 1) rfl
    have b2 := kb.out.cell (i := 2) rfl
    go_wp2_with fail
    clear a0 a1 a2 a3 a4 a5 b0 b1 b2
    have hbq := below_new1 w1 (.cells #[.int .i64 l1, .int .i64 l2, .int .i64 l3, .int .i64 p1, .int .i64 p2, .int .i64 p3, .int .i64 h1, .int .i64 h2, .int .i64 h3] 23)
    replace ka := Lib.hid (ka.out.keep hbq)
    replace kb := Lib.hid (kb.out.keep hbq)
    have zq : (w1.alloc (.cells #[.int .i64 l1, .int .i64 l2, .int .i64 l3, .int .i64 p1, .int .i64 p2, .int .i64 p3, .int .i64 h1, .int .i64 h2, .int .i64 h3] 23)).heap.size = w1.heap.size + 1 := by simp
    replace HB := Lib.hid (HB.out.trans (hbq.mono HB.out.size))
    have kq := Lib.hid (Lok.new w1 23 #[.int .i64 l1, .int .i64 l2, .int .i64 l3, .int .i64 p1, .int .i64 p2, .int .i64 p3, .int .i64 h1, .int .i64 h2, .int .i64 h3])
    clear hbq
    generalize w1.alloc (.cells #[.int .i64 l1, .int .i64 l2, .int .i64 l3, .int .i64 p1, .int .i64 p2, .int .i64 p3, .int .i64 h1, .int .i64 h2, .int .i64 h3] 23) = Vq at *
    clear zq
    generalize w1.heap.size = gq at *
    (((with_reducible refine (RI.out _ _ _ kq.out).mono ?_); rintro e w2 ⟨rfl, hb2⟩); replace HB := Lib.hid (HB.out.trans (hb2.mono HB.out.size)); clear hb2)
    clear kq ka kb
    go_wp2
    go_ret
    exact ⟨rfl, HB.out⟩
/-- The first axis along which a box is longest. -/
def lgD (l1 l2 l3 h1 h2 h3 : Int) (k : Nat) : Int := pt h1 h2 h3 k - pt l1 l2 l3 k
def lgF (l1 l2 l3 h1 h2 h3 : Int) : Nat → Nat
  | 0 => 0
  | k + 1 => if lgD l1 l2 l3 h1 h2 h3 (lgF l1 l2 l3 h1 h2 h3 k) < lgD l1 l2 l3 h1 h2 h3 k then k else lgF l1 l2 l3 h1 h2 h3 k
theorem lgF_lt (l1 l2 l3 h1 h2 h3 : Int) : ∀ k, k ≤ 3 → lgF l1 l2 l3 h1 h2 h3 k < 3
  | 0, _ => (by decide : 0 < 3)
  | k + 1, h => by
    have := lgF_lt l1 l2 l3 h1 h2 h3 k (by omega)
    show (if _ then k else lgF l1 l2 l3 h1 h2 h3 k) < 3
    split <;> omega
/-- Of a right box: the axis, or zero. -/
def lgV (t : Bool) (l1 l2 l3 h1 h2 h3 : Int) : Int := if t then lgF l1 l2 l3 h1 h2 h3 3 else 0
/-- The error of what is not right. -/
def aE (t : Bool) : Int := if t then 0 else 1
theorem lg_ways (l1 l2 l3 h1 h2 h3 : Int) : (lgF l1 l2 l3 h1 h2 h3 3 : Int) = if h2 - l2 ≤ h1 - l1 ∧ h3 - l3 ≤ h1 - l1 then 0 else if h3 - l3 ≤ h2 - l2 then 1 else 2 := by
  have e0 : lgF l1 l2 l3 h1 h2 h3 1 = 0 := by
    show (if _ then 0 else 0) = 0
    split <;> rfl
  have d0 : lgD l1 l2 l3 h1 h2 h3 0 = h1 - l1 := rfl
  have d1 : lgD l1 l2 l3 h1 h2 h3 1 = h2 - l2 := rfl
  have d2 : lgD l1 l2 l3 h1 h2 h3 2 = h3 - l3 := rfl
  by_cases a : h1 - l1 < h2 - l2
  · have e1 : lgF l1 l2 l3 h1 h2 h3 2 = 1 := by
      show (if lgD l1 l2 l3 h1 h2 h3 (lgF l1 l2 l3 h1 h2 h3 1) < lgD l1 l2 l3 h1 h2 h3 1 then 1 else lgF l1 l2 l3 h1 h2 h3 1) = 1
      rw [e0, d0, d1, if_pos a]
    show ((if lgD l1 l2 l3 h1 h2 h3 (lgF l1 l2 l3 h1 h2 h3 2) < lgD l1 l2 l3 h1 h2 h3 2 then 2 else lgF l1 l2 l3 h1 h2 h3 2 : Nat) : Int) = _
    rw [e1, d1, d2, if_neg (show ¬ (h2 - l2 ≤ h1 - l1 ∧ h3 - l3 ≤ h1 - l1) by omega)]
    by_cases b : h2 - l2 < h3 - l3
    · rw [if_pos b, if_neg (by omega)]; rfl
    · rw [if_neg b, if_pos (by omega)]; rfl
  · have e1 : lgF l1 l2 l3 h1 h2 h3 2 = 0 := by
      show (if lgD l1 l2 l3 h1 h2 h3 (lgF l1 l2 l3 h1 h2 h3 1) < lgD l1 l2 l3 h1 h2 h3 1 then 1 else lgF l1 l2 l3 h1 h2 h3 1) = 0
      rw [e0, d0, d1, if_neg a]
    show ((if lgD l1 l2 l3 h1 h2 h3 (lgF l1 l2 l3 h1 h2 h3 2) < lgD l1 l2 l3 h1 h2 h3 2 then 2 else lgF l1 l2 l3 h1 h2 h3 2 : Nat) : Int) = _
    rw [e1, d0, d2]
    by_cases b : h1 - l1 < h3 - l3
    · rw [if_pos b, if_neg (by omega), if_neg (by omega)]; rfl
    · rw [if_neg b, if_pos (by omega)]; rfl
theorem lgD_bd {l1 l2 l3 h1 h2 h3 : Int} (h : bxR l1 l2 l3 h1 h2 h3 = true) {k : Nat} (hk : k < 3) : SM 16384 (pt l1 l2 l3 k) ∧ SM 16384 (pt h1 h2 h3 k) := by
  obtain ⟨⟨a, b⟩, -⟩ := bxR_iff.1 h
  obtain ⟨a1, a2, a3⟩ := s3_iff.1 a
  obtain ⟨b1, b2, b3⟩ := s3_iff.1 b
  rcases show k = 0 ∨ k = 1 ∨ k = 2 by omega with rfl | rfl | rfl
  · exact ⟨a1, b1⟩
  · exact ⟨a2, b2⟩
  · exact ⟨a3, b3⟩
set_option maxRecDepth 100000 in
set_option maxHeartbeats 8000000 in
theorem longest_any (l1 l2 l3 h1 h2 h3 : Int) (w : World) :
    Calls Try.prog 14 #[.agg #[.int .i64 l1, .int .i64 l2, .int .i64 l3, .int .i64 h1, .int .i64 h2, .int .i64 h3]] w fun e' w' => e' = .returned (.tuple #[.int .i64 (lgV (bxR l1 l2 l3 h1 h2 h3) l1 l2 l3 h1 h2 h3), .int .i64 (aE (bxR l1 l2 l3 h1 h2 h3))]) ∧ Below w.heap.size w w' := by
  have HB := Lib.hid (Below.refl w.heap.size w)
  have S := Lib.hid (fun W => slis_any l1 l2 l3 h1 h2 h3 W)
  cases ht : bxR l1 l2 l3 h1 h2 h3 with
  | false =>
    rw [ht] at S
    clear ht
    rw [show lgV false l1 l2 l3 h1 h2 h3 = 0 from rfl, show aE false = 1 from rfl]
    go_enter Try.func14, Try.ntmps14
    go_upto_region 1 with fail
    have hba := below_new1 w (.cells #[.int .i64 l1, .int .i64 l2, .int .i64 l3, .int .i64 h1, .int .i64 h2, .int .i64 h3] 25)
    have za : (w.alloc (.cells #[.int .i64 l1, .int .i64 l2, .int .i64 l3, .int .i64 h1, .int .i64 h2, .int .i64 h3] 25)).heap.size = w.heap.size + 1 := by simp
    have HB := Lib.hid hba
    have ka := Lib.hid (Lok.new w 25 #[.int .i64 l1, .int .i64 l2, .int .i64 l3, .int .i64 h1, .int .i64 h2, .int .i64 h3])
    clear hba
    generalize w.alloc (.cells #[.int .i64 l1, .int .i64 l2, .int .i64 l3, .int .i64 h1, .int .i64 h2, .int .i64 h3] 25) = Va at *
    clear za
    have a0 := ka.out.cell (i := 0) rfl
    have a1 := ka.out.cell (i := 1) rfl
    have a2 := ka.out.cell (i := 2) rfl
    have a3 := ka.out.cell (i := 3) rfl
    have a4 := ka.out.cell (i := 4) rfl
    have a5 := ka.out.cell (i := 5) rfl
    go_wp2_with fail
    clear a0 a1 a2 a3 a4 a5
    (((with_reducible refine (S.out _).mono ?_); rintro e w1 ⟨rfl, hb1⟩); replace HB := Lib.hid (HB.out.trans (hb1.mono HB.out.size)); replace ka := Lib.hid (ka.out.keep hb1); clear hb1)
    clear ka
    go_wp2
    go_ret2
    exact ⟨rfl, HB.out⟩
  | true =>
    rw [ht] at S
    have SM := Lib.hid (fun k (hk : k < 3) => lgD_bd ht hk)
    rw [show lgV true l1 l2 l3 h1 h2 h3 = lgF l1 l2 l3 h1 h2 h3 3 from rfl, show aE true = 0 from rfl]
    have PC := Lib.hid (fun x y z W => slparts_any x y z W)
    clear ht
    go_enter Try.func14, Try.ntmps14
    go_upto_region 1 with fail
    have hba := below_new1 w (.cells #[.int .i64 l1, .int .i64 l2, .int .i64 l3, .int .i64 h1, .int .i64 h2, .int .i64 h3] 25)
    have za : (w.alloc (.cells #[.int .i64 l1, .int .i64 l2, .int .i64 l3, .int .i64 h1, .int .i64 h2, .int .i64 h3] 25)).heap.size = w.heap.size + 1 := by simp
    have HB := Lib.hid hba
    have ka := Lib.hid (Lok.new w 25 #[.int .i64 l1, .int .i64 l2, .int .i64 l3, .int .i64 h1, .int .i64 h2, .int .i64 h3])
    clear hba
    generalize w.alloc (.cells #[.int .i64 l1, .int .i64 l2, .int .i64 l3, .int .i64 h1, .int .i64 h2, .int .i64 h3] 25) = Va at *
    clear za
    have a0 := ka.out.cell (i := 0) rfl
    have a1 := ka.out.cell (i := 1) rfl
    have a2 := ka.out.cell (i := 2) rfl
    have a3 := ka.out.cell (i := 3) rfl
    have a4 := ka.out.cell (i := 4) rfl
    have a5 := ka.out.cell (i := 5) rfl
    go_wp2_with fail
    clear a0 a1 a2 a3 a4 a5
    (((with_reducible refine (S.out _).mono ?_); rintro e w1 ⟨rfl, hb1⟩); replace HB := Lib.hid (HB.out.trans (hb1.mono HB.out.size)); replace ka := Lib.hid (ka.out.keep hb1); clear hb1)
    have a0 := ka.out.cell (i := 0) rfl
    have a1 := ka.out.cell (i := 1) rfl
    have a2 := ka.out.cell (i := 2) rfl
    have a3 := ka.out.cell (i := 3) rfl
    have a4 := ka.out.cell (i := 4) rfl
    have a5 := ka.out.cell (i := 5) rfl
    clear S ka
    go_upto_region 3 with fail
    refine wp_region_rel (by kernel_rfl) [11, 12, 13, 14, 15, 16, 4, 5] ?Fr1 ?hFr1
      (fun L u W => Below w1.heap.size w1 W ∧ (L 0 = true → u 11 = .pointer (some ⟨w.heap.size, 0, none⟩)) ∧ (L 1 = true → u 12 = .agg #[.int .i64 l1, .int .i64 l2, .int .i64 l3]) ∧ (L 2 = true → u 13 = .agg #[.int .i64 l1, .int .i64 l2, .int .i64 l3]) ∧ (L 3 = true → u 14 = .pointer (some ⟨w.heap.size, 3, none⟩)) ∧ (L 4 = true → u 15 = .agg #[.int .i64 h1, .int .i64 h2, .int .i64 h3]) ∧ (L 5 = true → u 16 = .agg #[.int .i64 h1, .int .i64 h2, .int .i64 h3]) ∧ (L 6 = true → ∃ (g : Nat) (x6_0 x6_1 x6_2 : Value), u 4 = .pointer (some ⟨g, 0, none⟩) ∧ w1.heap.size ≤ g ∧ Lok W g 47 #[x6_0, x6_1, x6_2] ∧ (L 8 = true → x6_0 = .int .i64 l1 ∧ x6_1 = .int .i64 l2 ∧ x6_2 = .int .i64 l3)) ∧ (L 8 = true → L 6 = true) ∧ (L 7 = true → ∃ (g : Nat) (x7_0 x7_1 x7_2 : Value), u 5 = .pointer (some ⟨g, 0, none⟩) ∧ w1.heap.size ≤ g ∧ Lok W g 47 #[x7_0, x7_1, x7_2] ∧ (L 9 = true → x7_0 = .int .i64 h1 ∧ x7_1 = .int .i64 h2 ∧ x7_2 = .int .i64 h3)) ∧ (L 9 = true → L 7 = true) ∧ (L 6 = true → L 7 = true → u 4 ≠ u 5)) (by kernel_rfl) (by kernel_rfl) 10 rfl ?h0r1 ?stepr1 ?finr1
    case hFr1 => intro u; simp only [putAll, Act.put, List.setIfInBounds_toArray, List.set]; exact rfl
    case h0r1 => intro L u hL; exact ⟨(Below.refl _ _).drew, (fun h => by simp [hL] at h), (fun h => by simp [hL] at h), (fun h => by simp [hL] at h), (fun h => by simp [hL] at h), (fun h => by simp [hL] at h), (fun h => by simp [hL] at h), (fun h => by simp [hL] at h), (fun h => by simp [hL] at h), (fun h => by simp [hL] at h), (fun h => by simp [hL] at h), (fun h => by simp [hL] at h)⟩
    case stepr1 =>
      refine ops_all (ops_cons ?s0r1 (ops_cons ?s1r1 (ops_cons ?s2r1 (ops_cons ?s3r1 (ops_cons ?s4r1 (ops_cons ?s5r1 (ops_cons ?s6r1 (ops_cons ?s7r1 (ops_cons ?s8r1 (ops_cons ?s9r1 (ops_nil)))))))))))
      case s0r1 =>
        rintro L u W ⟨hB, c0, c1, c2, c3, c4, c5, c6, d8, c7, d9, y6_7⟩ hf hd K hK
        dsimp only at hK
        clear hd
        go_simp
        refine hK _ _ ?_ (fun h => by cases h)
        intro s hs
        cases hs
        exact ⟨hB, (fun _ => rfl), c1, c2, c3, c4, c5, c6, d8, c7, d9, y6_7⟩
      case s1r1 =>
        rintro L u W ⟨hB, c0, c1, c2, c3, c4, c5, c6, d8, c7, d9, y6_7⟩ hf hd K hK
        dsimp only at hK
        have hd0 : L 0 = true := (by first | (refine hd ⟨0, .data⟩ ?_ rfl; simp; done) | (refine hd ⟨0, .guard⟩ ?_ rfl; simp; done) | (refine hd ⟨0, .phase⟩ ?_ rfl; simp; done) | (refine hd ⟨0, .chain⟩ ?_ rfl; simp; done))
        have e0 := c0 hd0
        rw [e0] at hK
        have t0 := keepc hB a0
        have t1 := keepc hB a1
        have t2 := keepc hB a2
        clear hd0
        clear hd
        go_simp
        refine hK _ _ ?_ (fun h => by cases h)
        intro s hs
        cases hs
        exact ⟨hB, c0, (fun _ => rfl), c2, c3, c4, c5, c6, d8, c7, d9, y6_7⟩
      case s2r1 =>
        rintro L u W ⟨hB, c0, c1, c2, c3, c4, c5, c6, d8, c7, d9, y6_7⟩ hf hd K hK
        dsimp only at hK
        have hd1 : L 1 = true := (by first | (refine hd ⟨1, .data⟩ ?_ rfl; simp; done) | (refine hd ⟨1, .guard⟩ ?_ rfl; simp; done) | (refine hd ⟨1, .phase⟩ ?_ rfl; simp; done) | (refine hd ⟨1, .chain⟩ ?_ rfl; simp; done))
        have e1 := c1 hd1
        rw [e1] at hK
        clear hd1
        clear hd
        go_simp
        go_wp2_with (go_at_call 23; ((with_reducible refine (PC.out _ _ _ _).mono ?_); rintro e w5 ⟨rfl, hb⟩))
        refine hK _ _ ?_ (fun h => by cases h)
        intro s hs
        cases hs
        exact ⟨hB.trans (hb.mono hB.size), c0, c1, (fun _ => rfl), c3, c4, c5, (fun h => by obtain ⟨g, x6_0, x6_1, x6_2, k1, k2, k3, k4⟩ := c6 h; exact ⟨g, x6_0, x6_1, x6_2, k1, k2, k3.keep hb, k4⟩), d8, (fun h => by obtain ⟨g, x7_0, x7_1, x7_2, k1, k2, k3, k4⟩ := c7 h; exact ⟨g, x7_0, x7_1, x7_2, k1, k2, k3.keep hb, k4⟩), d9, y6_7⟩
      case s3r1 =>
        rintro L u W ⟨hB, c0, c1, c2, c3, c4, c5, c6, d8, c7, d9, y6_7⟩ hf hd K hK
        dsimp only at hK
        clear hd
        go_simp
        refine hK _ _ ?_ (fun h => by cases h)
        intro s hs
        cases hs
        exact ⟨hB, c0, c1, c2, (fun _ => rfl), c4, c5, c6, d8, c7, d9, y6_7⟩
      case s4r1 =>
        rintro L u W ⟨hB, c0, c1, c2, c3, c4, c5, c6, d8, c7, d9, y6_7⟩ hf hd K hK
        dsimp only at hK
        have hd3 : L 3 = true := (by first | (refine hd ⟨3, .data⟩ ?_ rfl; simp; done) | (refine hd ⟨3, .guard⟩ ?_ rfl; simp; done) | (refine hd ⟨3, .phase⟩ ?_ rfl; simp; done) | (refine hd ⟨3, .chain⟩ ?_ rfl; simp; done))
        have e3 := c3 hd3
        rw [e3] at hK
        have t0 := keepc hB a3
        have t1 := keepc hB a4
        have t2 := keepc hB a5
        clear hd3
        clear hd
        go_simp
        refine hK _ _ ?_ (fun h => by cases h)
        intro s hs
        cases hs
        exact ⟨hB, c0, c1, c2, c3, (fun _ => rfl), c5, c6, d8, c7, d9, y6_7⟩
      case s5r1 =>
        rintro L u W ⟨hB, c0, c1, c2, c3, c4, c5, c6, d8, c7, d9, y6_7⟩ hf hd K hK
        dsimp only at hK
        have hd4 : L 4 = true := (by first | (refine hd ⟨4, .data⟩ ?_ rfl; simp; done) | (refine hd ⟨4, .guard⟩ ?_ rfl; simp; done) | (refine hd ⟨4, .phase⟩ ?_ rfl; simp; done) | (refine hd ⟨4, .chain⟩ ?_ rfl; simp; done))
        have e4 := c4 hd4
        rw [e4] at hK
        clear hd4
        clear hd
        go_simp
        go_wp2_with (go_at_call 23; ((with_reducible refine (PC.out _ _ _ _).mono ?_); rintro e w5 ⟨rfl, hb⟩))
        refine hK _ _ ?_ (fun h => by cases h)
        intro s hs
        cases hs
        exact ⟨hB.trans (hb.mono hB.size), c0, c1, c2, c3, c4, (fun _ => rfl), (fun h => by obtain ⟨g, x6_0, x6_1, x6_2, k1, k2, k3, k4⟩ := c6 h; exact ⟨g, x6_0, x6_1, x6_2, k1, k2, k3.keep hb, k4⟩), d8, (fun h => by obtain ⟨g, x7_0, x7_1, x7_2, k1, k2, k3, k4⟩ := c7 h; exact ⟨g, x7_0, x7_1, x7_2, k1, k2, k3.keep hb, k4⟩), d9, y6_7⟩
      case s6r1 =>
        rintro L u W ⟨hB, c0, c1, c2, c3, c4, c5, c6, d8, c7, d9, y6_7⟩ hf hd K hK
        dsimp only at hK
        go_simp
        have hb : Below W.heap.size W (W.alloc (.cells #[.int .i64 0, .int .i64 0, .int .i64 0] 47)) := (Below.refl _ W).alloc (Nat.le_refl _) _
        refine hK _ _ ?_ (fun h => by cases h)
        intro s hs
        cases hs
        exact ⟨hB.trans (hb.mono hB.size), c0, c1, c2, c3, c4, c5, (fun _ => ⟨_, _, _, _, rfl, hB.size, Lok.new _ _ _, fun h => absurd (d8 h) (by rw [hf]; decide)⟩), (fun _ => rfl), (fun h => by obtain ⟨g, x7_0, x7_1, x7_2, k1, k2, k3, k4⟩ := c7 h; exact ⟨g, x7_0, x7_1, x7_2, k1, k2, k3.keep hb, k4⟩), d9, (fun _ h => by obtain ⟨g, x7_0, x7_1, x7_2, k1, k2, k3, k4⟩ := c7 h; exact ptr_new k1 k3)⟩
      case s7r1 =>
        rintro L u W ⟨hB, c0, c1, c2, c3, c4, c5, c6, d8, c7, d9, y6_7⟩ hf hd K hK
        dsimp only at hK
        go_simp
        have hb : Below W.heap.size W (W.alloc (.cells #[.int .i64 0, .int .i64 0, .int .i64 0] 47)) := (Below.refl _ W).alloc (Nat.le_refl _) _
        refine hK _ _ ?_ (fun h => by cases h)
        intro s hs
        cases hs
        exact ⟨hB.trans (hb.mono hB.size), c0, c1, c2, c3, c4, c5, (fun h => by obtain ⟨g, x6_0, x6_1, x6_2, k1, k2, k3, k4⟩ := c6 h; exact ⟨g, x6_0, x6_1, x6_2, k1, k2, k3.keep hb, k4⟩), d8, (fun _ => ⟨_, _, _, _, rfl, hB.size, Lok.new _ _ _, fun h => absurd (d9 h) (by rw [hf]; decide)⟩), (fun _ => rfl), (fun h _ => by obtain ⟨g, x6_0, x6_1, x6_2, k1, k2, k3, k4⟩ := c6 h; exact ptr_new2 k1 k3)⟩
      case s8r1 =>
        rintro L u W ⟨hB, c0, c1, c2, c3, c4, c5, c6, d8, c7, d9, y6_7⟩ hf hd K hK
        dsimp only at hK
        have hd6 : L 6 = true := hd ⟨6, .data⟩ (by simp) rfl
        have hd2 : L 2 = true := (by first | (refine hd ⟨2, .data⟩ ?_ rfl; simp; done) | (refine hd ⟨2, .guard⟩ ?_ rfl; simp; done) | (refine hd ⟨2, .phase⟩ ?_ rfl; simp; done) | (refine hd ⟨2, .chain⟩ ?_ rfl; simp; done))
        obtain ⟨g, x6_0, x6_1, x6_2, e6, k2, k3, k4⟩ := c6 hd6
        rw [e6] at hK
        have e2 := c2 hd2
        rw [e2] at hK
        have t0 := k3.cell (i := 0) rfl
        have f0 := k3.frozen 0
        have t1 := k3.cell (i := 1) rfl
        have f1 := k3.frozen 1
        have t2 := k3.cell (i := 2) rfl
        have f2 := k3.frozen 2
        have HH := Lib.hid (And.intro trivial trivial)
        clear hd
        have hd6' := Lib.hid hd6
        clear hd6
        have hd2' := Lib.hid hd2
        clear hd2
        go_simp
        have hd6 := hd6'.out
        have hd2 := hd2'.out
        have hlok := ((k3.set (i := 0) (v := .int .i64 l1)).set (i := 1) (v := .int .i64 l2)).set (i := 2) (v := .int .i64 l3)
        refine hK undef _ (fun s h => by cases h) (fun _ => ?_)
        exact ⟨((hB.setCell k2 _).setCell k2 _).setCell k2 _, c0, c1, (fun _ => rfl), c3, c4, c5, (fun _ => ⟨g, _, _, _, rfl, k2, hlok, fun _ => ⟨rfl, rfl, rfl⟩⟩), (fun _ => hd6), (fun h => by obtain ⟨g2, x7_0, x7_1, x7_2, m1, m2, m3, m4⟩ := c7 h; have hne := ptr_apart (y6_7 hd6 h) e6 m1; exact ⟨g2, x7_0, x7_1, x7_2, m1, m2, ((m3.far hne).far hne).far hne, m4⟩), d9, (fun h1 h2 => by first | exact y6_7 h1 h2 | (rw [← e6]; exact y6_7 h1 h2))⟩
      case s9r1 =>
        rintro L u W ⟨hB, c0, c1, c2, c3, c4, c5, c6, d8, c7, d9, y6_7⟩ hf hd K hK
        dsimp only at hK
        have hd7 : L 7 = true := hd ⟨7, .data⟩ (by simp) rfl
        have hd5 : L 5 = true := (by first | (refine hd ⟨5, .data⟩ ?_ rfl; simp; done) | (refine hd ⟨5, .guard⟩ ?_ rfl; simp; done) | (refine hd ⟨5, .phase⟩ ?_ rfl; simp; done) | (refine hd ⟨5, .chain⟩ ?_ rfl; simp; done))
        obtain ⟨g, x7_0, x7_1, x7_2, e7, k2, k3, k4⟩ := c7 hd7
        rw [e7] at hK
        have e5 := c5 hd5
        rw [e5] at hK
        have t0 := k3.cell (i := 0) rfl
        have f0 := k3.frozen 0
        have t1 := k3.cell (i := 1) rfl
        have f1 := k3.frozen 1
        have t2 := k3.cell (i := 2) rfl
        have f2 := k3.frozen 2
        have HH := Lib.hid (And.intro trivial trivial)
        clear hd
        have hd7' := Lib.hid hd7
        clear hd7
        have hd5' := Lib.hid hd5
        clear hd5
        go_simp
        have hd7 := hd7'.out
        have hd5 := hd5'.out
        have hlok := ((k3.set (i := 0) (v := .int .i64 h1)).set (i := 1) (v := .int .i64 h2)).set (i := 2) (v := .int .i64 h3)
        refine hK undef _ (fun s h => by cases h) (fun _ => ?_)
        exact ⟨((hB.setCell k2 _).setCell k2 _).setCell k2 _, c0, c1, c2, c3, c4, (fun _ => rfl), (fun h => by obtain ⟨g2, x6_0, x6_1, x6_2, m1, m2, m3, m4⟩ := c6 h; have hne := ptr_apart2 (y6_7 h hd7) m1 e7; exact ⟨g2, x6_0, x6_1, x6_2, m1, m2, ((m3.far hne).far hne).far hne, m4⟩), d8, (fun _ => ⟨g, _, _, _, rfl, k2, hlok, fun _ => ⟨rfl, rfl, rfl⟩⟩), (fun _ => hd7), (fun h1 h2 => by first | exact y6_7 h1 h2 | (rw [← e7]; exact y6_7 h1 h2))⟩
    case finr1 =>
      rintro L u W hL ⟨hB, c0, c1, c2, c3, c4, c5, c6, d8, c7, d9, y6_7⟩
      have e0 := c0 (hL 0 (by decide))
      have e1 := c1 (hL 1 (by decide))
      have e2 := c2 (hL 2 (by decide))
      have e3 := c3 (hL 3 (by decide))
      have e4 := c4 (hL 4 (by decide))
      have e5 := c5 (hL 5 (by decide))
      obtain ⟨g6, x6_0, x6_1, x6_2, e6, hg6, hlok6, hst6⟩ := c6 (hL 6 (by decide))
      obtain ⟨rfl, rfl, rfl⟩ := hst6 (hL 8 (by decide))
      clear hst6
      obtain ⟨g7, x7_0, x7_1, x7_2, e7, hg7, hlok7, hst7⟩ := c7 (hL 7 (by decide))
      obtain ⟨rfl, rfl, rfl⟩ := hst7 (hL 9 (by decide))
      clear hst7
      clear hL c0 c1 c2 c3 c4 c5 c6 d8 c7 d9 y6_7
      try simp only [e0, e1, e2, e3, e4, e5, e6, e7]
      clear e0 e1 e2 e3 e4 e5 e6 e7
      replace HB := Lib.hid (HB.out.trans (hB.mono HB.out.size))
      have K4 := Lib.hid hlok6
      have K5 := Lib.hid hlok7
      clear hB hlok6 hlok7 a0 a1 a2 a3 a4 a5 PC
      go_wp2_with fail
      go_loopw [6, 17] (fun x y wi => ∃ k : Nat, x = .int .i64 (lgF l1 l2 l3 h1 h2 h3 k) ∧ y = .int .i64 k ∧ k ≤ 3 ∧ Below W.heap.size W wi) (fun _ y _ => 3 - (intOf y).toNat)
      case atStart => exact ⟨0, rfl, rfl, Nat.zero_le _, Below.refl _ _⟩
      case round =>
        obtain ⟨k, rfl, rfl, hk, hBi⟩ := hrel
        have B := Lib.hid hBi
        clear hBi
        by_cases hlt : k < 3
        · have hl := lgF_lt l1 l2 l3 h1 h2 h3 k hk
          have hs : lgF l1 l2 l3 h1 h2 h3 (k + 1) = if lgD l1 l2 l3 h1 h2 h3 (lgF l1 l2 l3 h1 h2 h3 k) < lgD l1 l2 l3 h1 h2 h3 k then k else lgF l1 l2 l3 h1 h2 h3 k := rfl
          unfold lgD at hs
          obtain ⟨m, hm⟩ : ∃ m, m = lgF l1 l2 l3 h1 h2 h3 k := ⟨_, rfl⟩
          rw [← hm] at hl hs
          have HS := Lib.hid hs
          clear hs
          rw [← hm]
          have HM := Lib.hid hm
          clear hm
          have c0 := (K4.out.keep B.out).cell (pt_at l1 l2 l3 hlt)
          have c1 := (K5.out.keep B.out).cell (pt_at h1 h2 h3 hlt)
          have c2 := (K4.out.keep B.out).cell (pt_at l1 l2 l3 hl)
          have c3 := (K5.out.keep B.out).cell (pt_at h1 h2 h3 hl)
          have s0 := SM.out k hlt
          have s1 := SM.out m hl
          unfold Go.Proofs.Ytfghjfgdjlkooaa.SM at s0 s1
          have e1 : IntKind.i64.wrap (pt h1 h2 h3 k - pt l1 l2 l3 k) = pt h1 h2 h3 k - pt l1 l2 l3 k := IntWalk.i64_in _ (by omega)
          have e2 : IntKind.i64.wrap (pt h1 h2 h3 m - pt l1 l2 l3 m) = pt h1 h2 h3 m - pt l1 l2 l3 m := IntWalk.i64_in _ (by omega)
          clear s0 s1
          generalize pt l1 l2 l3 k = x0 at *
          generalize pt h1 h2 h3 k = x1 at *
          generalize pt l1 l2 l3 m = x2 at *
          generalize pt h1 h2 h3 m = x3 at *
          have i0 : (0 : Int) ≤ (k : Int) := by omega
          have i1 : (k : Int) < 3 := by omega
          have i2 : ((k : Int)).toNat = k := by omega
          have m0 : (0 : Int) ≤ (m : Int) := by omega
          have m1 : (m : Int) < 3 := by omega
          have m2 : ((m : Int)).toNat = m := by omega
          go_upto_region 8 with fail
          by_cases hgt : x3 - x2 < x1 - x0
          · go_quiet (fail)
            go_wp2
            go_roundw
            case rel => exact ⟨k + 1, by rw [HS.out, if_pos hgt], by go_num, hlt, below_drewN B.out _⟩
            case measure => simp [intOf]; omega
          · go_quiet (fail)
            go_wp2
            go_roundw
            case rel => exact ⟨k + 1, by rw [HS.out, if_neg hgt], by go_num, hlt, below_drewN B.out _⟩
            case measure => simp [intOf]; omega
        · obtain rfl : k = 3 := by omega
          go_wp2
          go_ret2
          exact ⟨rfl, HB.out.trans (B.out.mono HB.out.size)⟩
end Go.Proofs.Ytfghjfgdjlkooaa
