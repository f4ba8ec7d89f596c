/-
  The reference limewashref13: Is, Has, Longest. (gen/SbR.py)
-/
import Derived.Test.YtfghjfgdjlkooaaSbB
import Derived.Test.YtfghjfgdjlkooaaSgR
namespace Go.Proofs.Ytfghjfgdjlkooaa
open Go.RowKit

set_option maxRecDepth 100000 in
set_option maxHeartbeats 4000000 in
theorem rslis_any (l1 l2 l3 h1 h2 h3 : Int) (w : World) :
    Calls Try.prog 18 #[.agg #[.int .i64 l1, .int .i64 l2, .int .i64 l3, .int .i64 h1, .int .i64 h2, .int .i64 h3]] w fun e' w' => e' = .returned (.bool (bxR l1 l2 l3 h1 h2 h3)) ∧ Below w.heap.size w w' := by
  have HB := Lib.hid (Below.refl w.heap.size w)
  have S1 := Lib.hid (fun W => rsmall3_any l1 l2 l3 W)
  have S2 := Lib.hid (fun W => rsmall3_any h1 h2 h3 W)
  cases h1' : s3 l1 l2 l3 with
  | false =>
    have E : Hid (bxR l1 l2 l3 h1 h2 h3 = false) := Lib.hid (by
      cases q : bxR l1 l2 l3 h1 h2 h3 with
      | false => rfl
      | true =>
        have z := bxR_iff.1 q
        rw [h1'] at z; exact absurd z.1.1 (by decide))
    rw [h1'] at S1
    clear h1' S2
    go_enter Try.func18, Try.ntmps18
    go_upto_region 1 with fail
    have hba := below_new1 w (.cells #[.int .i64 l1, .int .i64 l2, .int .i64 l3, .int .i64 h1, .int .i64 h2, .int .i64 h3] 25)
    have za : (w.alloc (.cells #[.int .i64 l1, .int .i64 l2, .int .i64 l3, .int .i64 h1, .int .i64 h2, .int .i64 h3] 25)).heap.size = w.heap.size + 1 := by simp
    have HB := Lib.hid hba
    have ka := Lib.hid (Lok.new w 25 #[.int .i64 l1, .int .i64 l2, .int .i64 l3, .int .i64 h1, .int .i64 h2, .int .i64 h3])
    clear hba
    generalize w.alloc (.cells #[.int .i64 l1, .int .i64 l2, .int .i64 l3, .int .i64 h1, .int .i64 h2, .int .i64 h3] 25) = Va at *
    clear za
    have a0 := ka.out.cell (i := 0) rfl
    have a1 := ka.out.cell (i := 1) rfl
    have a2 := ka.out.cell (i := 2) rfl
    have a3 := ka.out.cell (i := 3) rfl
    have a4 := ka.out.cell (i := 4) rfl
    have a5 := ka.out.cell (i := 5) rfl
    go_wp2_with fail
    clear a0 a1 a2 a3 a4 a5
    (((with_reducible refine (S1.out _).mono ?_); rintro e w1 ⟨rfl, hb1⟩); replace HB := Lib.hid (HB.out.trans (hb1.mono HB.out.size)); replace ka := Lib.hid (ka.out.keep hb1); clear hb1)
    clear S1
    go_wp2
    go_ret
    exact ⟨by rw [E.out]; rfl, HB.out⟩
  | true =>
    cases h2' : s3 h1 h2 h3 with
    | false =>
      have E : Hid (bxR l1 l2 l3 h1 h2 h3 = false) := Lib.hid (by
        cases q : bxR l1 l2 l3 h1 h2 h3 with
        | false => rfl
        | true =>
          have z := bxR_iff.1 q
          rw [h2'] at z; exact absurd z.1.2 (by decide))
      rw [h1'] at S1
      rw [h2'] at S2
      clear h1' h2'
      go_enter Try.func18, Try.ntmps18
      go_upto_region 1 with fail
      have hba := below_new1 w (.cells #[.int .i64 l1, .int .i64 l2, .int .i64 l3, .int .i64 h1, .int .i64 h2, .int .i64 h3] 25)
      have za : (w.alloc (.cells #[.int .i64 l1, .int .i64 l2, .int .i64 l3, .int .i64 h1, .int .i64 h2, .int .i64 h3] 25)).heap.size = w.heap.size + 1 := by simp
      have HB := Lib.hid hba
      have ka := Lib.hid (Lok.new w 25 #[.int .i64 l1, .int .i64 l2, .int .i64 l3, .int .i64 h1, .int .i64 h2, .int .i64 h3])
      clear hba
      generalize w.alloc (.cells #[.int .i64 l1, .int .i64 l2, .int .i64 l3, .int .i64 h1, .int .i64 h2, .int .i64 h3] 25) = Va at *
      clear za
      have a0 := ka.out.cell (i := 0) rfl
      have a1 := ka.out.cell (i := 1) rfl
      have a2 := ka.out.cell (i := 2) rfl
      have a3 := ka.out.cell (i := 3) rfl
      have a4 := ka.out.cell (i := 4) rfl
      have a5 := ka.out.cell (i := 5) rfl
      go_wp2_with fail
      clear a0 a1 a2 a3 a4 a5
      (((with_reducible refine (S1.out _).mono ?_); rintro e w1 ⟨rfl, hb1⟩); replace HB := Lib.hid (HB.out.trans (hb1.mono HB.out.size)); replace ka := Lib.hid (ka.out.keep hb1); clear hb1)
      clear S1
      have a0 := ka.out.cell (i := 0) rfl
      have a1 := ka.out.cell (i := 1) rfl
      have a2 := ka.out.cell (i := 2) rfl
      have a3 := ka.out.cell (i := 3) rfl
      have a4 := ka.out.cell (i := 4) rfl
      have a5 := ka.out.cell (i := 5) rfl
      go_wp2_with fail
      clear a0 a1 a2 a3 a4 a5
      (((with_reducible refine (S2.out _).mono ?_); rintro e w2 ⟨rfl, hb2⟩); replace HB := Lib.hid (HB.out.trans (hb2.mono HB.out.size)); replace ka := Lib.hid (ka.out.keep hb2); clear hb2)
      clear S2
      have a0 := ka.out.cell (i := 0) rfl
      have a1 := ka.out.cell (i := 1) rfl
      have a2 := ka.out.cell (i := 2) rfl
      have a3 := ka.out.cell (i := 3) rfl
      have a4 := ka.out.cell (i := 4) rfl
      have a5 := ka.out.cell (i := 5) rfl
      go_wp2
      go_ret
      exact ⟨by rw [E.out]; rfl, HB.out⟩
    | true =>
      rw [h1'] at S1
      rw [h2'] at S2
      by_cases c0 : l1 ≤ h1
      case neg =>
        have E : Hid (bxR l1 l2 l3 h1 h2 h3 = false) := Lib.hid (by
          cases q : bxR l1 l2 l3 h1 h2 h3 with
          | false => rfl
          | true =>
            have z := bxR_iff.1 q
            exact absurd z.2 (by omega))
        clear h1' h2'
        go_enter Try.func18, Try.ntmps18
        go_upto_region 1 with fail
        have hba := below_new1 w (.cells #[.int .i64 l1, .int .i64 l2, .int .i64 l3, .int .i64 h1, .int .i64 h2, .int .i64 h3] 25)
        have za : (w.alloc (.cells #[.int .i64 l1, .int .i64 l2, .int .i64 l3, .int .i64 h1, .int .i64 h2, .int .i64 h3] 25)).heap.size = w.heap.size + 1 := by simp
        have HB := Lib.hid hba
        have ka := Lib.hid (Lok.new w 25 #[.int .i64 l1, .int .i64 l2, .int .i64 l3, .int .i64 h1, .int .i64 h2, .int .i64 h3])
        clear hba
        generalize w.alloc (.cells #[.int .i64 l1, .int .i64 l2, .int .i64 l3, .int .i64 h1, .int .i64 h2, .int .i64 h3] 25) = Va at *
        clear za
        have a0 := ka.out.cell (i := 0) rfl
        have a1 := ka.out.cell (i := 1) rfl
        have a2 := ka.out.cell (i := 2) rfl
        have a3 := ka.out.cell (i := 3) rfl
        have a4 := ka.out.cell (i := 4) rfl
        have a5 := ka.out.cell (i := 5) rfl
        go_wp2_with fail
        clear a0 a1 a2 a3 a4 a5
        (((with_reducible refine (S1.out _).mono ?_); rintro e w1 ⟨rfl, hb1⟩); replace HB := Lib.hid (HB.out.trans (hb1.mono HB.out.size)); replace ka := Lib.hid (ka.out.keep hb1); clear hb1)
        clear S1
        have a0 := ka.out.cell (i := 0) rfl
        have a1 := ka.out.cell (i := 1) rfl
        have a2 := ka.out.cell (i := 2) rfl
        have a3 := ka.out.cell (i := 3) rfl
        have a4 := ka.out.cell (i := 4) rfl
        have a5 := ka.out.cell (i := 5) rfl
        go_wp2_with fail
        clear a0 a1 a2 a3 a4 a5
        (((with_reducible refine (S2.out _).mono ?_); rintro e w2 ⟨rfl, hb2⟩); replace HB := Lib.hid (HB.out.trans (hb2.mono HB.out.size)); replace ka := Lib.hid (ka.out.keep hb2); clear hb2)
        clear S2
        have a0 := ka.out.cell (i := 0) rfl
        have a1 := ka.out.cell (i := 1) rfl
        have a2 := ka.out.cell (i := 2) rfl
        have a3 := ka.out.cell (i := 3) rfl
        have a4 := ka.out.cell (i := 4) rfl
        have a5 := ka.out.cell (i := 5) rfl
        go_wp2
        go_ret
        exact ⟨by rw [E.out]; rfl, HB.out⟩
      by_cases c1 : l2 ≤ h2
      case neg =>
        have E : Hid (bxR l1 l2 l3 h1 h2 h3 = false) := Lib.hid (by
          cases q : bxR l1 l2 l3 h1 h2 h3 with
          | false => rfl
          | true =>
            have z := bxR_iff.1 q
            exact absurd z.2 (by omega))
        clear h1' h2'
        go_enter Try.func18, Try.ntmps18
        go_upto_region 1 with fail
        have hba := below_new1 w (.cells #[.int .i64 l1, .int .i64 l2, .int .i64 l3, .int .i64 h1, .int .i64 h2, .int .i64 h3] 25)
        have za : (w.alloc (.cells #[.int .i64 l1, .int .i64 l2, .int .i64 l3, .int .i64 h1, .int .i64 h2, .int .i64 h3] 25)).heap.size = w.heap.size + 1 := by simp
        have HB := Lib.hid hba
        have ka := Lib.hid (Lok.new w 25 #[.int .i64 l1, .int .i64 l2, .int .i64 l3, .int .i64 h1, .int .i64 h2, .int .i64 h3])
        clear hba
        generalize w.alloc (.cells #[.int .i64 l1, .int .i64 l2, .int .i64 l3, .int .i64 h1, .int .i64 h2, .int .i64 h3] 25) = Va at *
        clear za
        have a0 := ka.out.cell (i := 0) rfl
        have a1 := ka.out.cell (i := 1) rfl
        have a2 := ka.out.cell (i := 2) rfl
        have a3 := ka.out.cell (i := 3) rfl
        have a4 := ka.out.cell (i := 4) rfl
        have a5 := ka.out.cell (i := 5) rfl
        go_wp2_with fail
        clear a0 a1 a2 a3 a4 a5
        (((with_reducible refine (S1.out _).mono ?_); rintro e w1 ⟨rfl, hb1⟩); replace HB := Lib.hid (HB.out.trans (hb1.mono HB.out.size)); replace ka := Lib.hid (ka.out.keep hb1); clear hb1)
        clear S1
        have a0 := ka.out.cell (i := 0) rfl
        have a1 := ka.out.cell (i := 1) rfl
        have a2 := ka.out.cell (i := 2) rfl
        have a3 := ka.out.cell (i := 3) rfl
        have a4 := ka.out.cell (i := 4) rfl
        have a5 := ka.out.cell (i := 5) rfl
        go_wp2_with fail
        clear a0 a1 a2 a3 a4 a5
        (((with_reducible refine (S2.out _).mono ?_); rintro e w2 ⟨rfl, hb2⟩); replace HB := Lib.hid (HB.out.trans (hb2.mono HB.out.size)); replace ka := Lib.hid (ka.out.keep hb2); clear hb2)
        clear S2
        have a0 := ka.out.cell (i := 0) rfl
        have a1 := ka.out.cell (i := 1) rfl
        have a2 := ka.out.cell (i := 2) rfl
        have a3 := ka.out.cell (i := 3) rfl
        have a4 := ka.out.cell (i := 4) rfl
        have a5 := ka.out.cell (i := 5) rfl
        go_wp2
        go_ret
        exact ⟨by rw [E.out]; rfl, HB.out⟩
      have E : Hid (bxR l1 l2 l3 h1 h2 h3 = decide (l3 ≤ h3)) := Lib.hid (by
        rw [Bool.eq_iff_iff, bxR_iff, decide_eq_true_iff]
        exact ⟨fun z => z.2.2.2, fun z => ⟨⟨h1', h2'⟩, c0, c1, z⟩⟩)
      clear h1' h2'
      go_enter Try.func18, Try.ntmps18
      go_upto_region 1 with fail
      have hba := below_new1 w (.cells #[.int .i64 l1, .int .i64 l2, .int .i64 l3, .int .i64 h1, .int .i64 h2, .int .i64 h3] 25)
      have za : (w.alloc (.cells #[.int .i64 l1, .int .i64 l2, .int .i64 l3, .int .i64 h1, .int .i64 h2, .int .i64 h3] 25)).heap.size = w.heap.size + 1 := by simp
      have HB := Lib.hid hba
      have ka := Lib.hid (Lok.new w 25 #[.int .i64 l1, .int .i64 l2, .int .i64 l3, .int .i64 h1, .int .i64 h2, .int .i64 h3])
      clear hba
      generalize w.alloc (.cells #[.int .i64 l1, .int .i64 l2, .int .i64 l3, .int .i64 h1, .int .i64 h2, .int .i64 h3] 25) = Va at *
      clear za
      have a0 := ka.out.cell (i := 0) rfl
      have a1 := ka.out.cell (i := 1) rfl
      have a2 := ka.out.cell (i := 2) rfl
      have a3 := ka.out.cell (i := 3) rfl
      have a4 := ka.out.cell (i := 4) rfl
      have a5 := ka.out.cell (i := 5) rfl
      go_wp2_with fail
      clear a0 a1 a2 a3 a4 a5
      (((with_reducible refine (S1.out _).mono ?_); rintro e w1 ⟨rfl, hb1⟩); replace HB := Lib.hid (HB.out.trans (hb1.mono HB.out.size)); replace ka := Lib.hid (ka.out.keep hb1); clear hb1)
      clear S1
      have a0 := ka.out.cell (i := 0) rfl
      have a1 := ka.out.cell (i := 1) rfl
      have a2 := ka.out.cell (i := 2) rfl
      have a3 := ka.out.cell (i := 3) rfl
      have a4 := ka.out.cell (i := 4) rfl
      have a5 := ka.out.cell (i := 5) rfl
      go_wp2_with fail
      clear a0 a1 a2 a3 a4 a5
      (((with_reducible refine (S2.out _).mono ?_); rintro e w2 ⟨rfl, hb2⟩); replace HB := Lib.hid (HB.out.trans (hb2.mono HB.out.size)); replace ka := Lib.hid (ka.out.keep hb2); clear hb2)
      clear S2
      have a0 := ka.out.cell (i := 0) rfl
      have a1 := ka.out.cell (i := 1) rfl
      have a2 := ka.out.cell (i := 2) rfl
      have a3 := ka.out.cell (i := 3) rfl
      have a4 := ka.out.cell (i := 4) rfl
      have a5 := ka.out.cell (i := 5) rfl
      go_wp2
      go_ret
      exact ⟨by rw [E.out]; rfl, HB.out⟩
set_option maxRecDepth 100000 in
set_option maxHeartbeats 4000000 in
theorem rslhas_any (l1 l2 l3 h1 h2 h3 p1 p2 p3 : Int) (w : World) :
    Calls Try.prog 20 #[.agg #[.int .i64 l1, .int .i64 l2, .int .i64 l3, .int .i64 h1, .int .i64 h2, .int .i64 h3], .agg #[.int .i64 p1, .int .i64 p2, .int .i64 p3]] w fun e' w' => e' = .returned (.bool (bxH l1 l2 l3 h1 h2 h3 p1 p2 p3)) ∧ Below w.heap.size w w' := by
  have HB := Lib.hid (Below.refl w.heap.size w)
  have S := Lib.hid (fun W => rslis_any l1 l2 l3 h1 h2 h3 W)
  cases hr : bxR l1 l2 l3 h1 h2 h3 with
  | false =>
    have E : Hid (bxH l1 l2 l3 h1 h2 h3 p1 p2 p3 = false) := Lib.hid (by
      cases q : bxH l1 l2 l3 h1 h2 h3 p1 p2 p3 with
      | false => rfl
      | true =>
        have z := bxH_iff.1 q
        rw [hr] at z; exact absurd z.1 (by decide))
    rw [hr] at S
    clear hr
    go_enter Try.func20, Try.ntmps20
    go_upto_region 1 with fail
    have hba := below_new1 w (.cells #[.int .i64 l1, .int .i64 l2, .int .i64 l3, .int .i64 h1, .int .i64 h2, .int .i64 h3] 25)
    have za : (w.alloc (.cells #[.int .i64 l1, .int .i64 l2, .int .i64 l3, .int .i64 h1, .int .i64 h2, .int .i64 h3] 25)).heap.size = w.heap.size + 1 := by simp
    have HB := Lib.hid hba
    have ka := Lib.hid (Lok.new w 25 #[.int .i64 l1, .int .i64 l2, .int .i64 l3, .int .i64 h1, .int .i64 h2, .int .i64 h3])
    clear hba
    generalize w.alloc (.cells #[.int .i64 l1, .int .i64 l2, .int .i64 l3, .int .i64 h1, .int .i64 h2, .int .i64 h3] 25) = Va at *
    have hbb := below_new1 Va (.cells #[.int .i64 p1, .int .i64 p2, .int .i64 p3] 23)
    replace ka := Lib.hid (ka.out.keep hbb)
    have zb : (Va.alloc (.cells #[.int .i64 p1, .int .i64 p2, .int .i64 p3] 23)).heap.size = Va.heap.size + 1 := by simp
    replace HB := Lib.hid (HB.out.trans (hbb.mono HB.out.size))
    have kb := Lib.hid (Lok.new Va 23 #[.int .i64 p1, .int .i64 p2, .int .i64 p3])
    clear hbb
    generalize Va.alloc (.cells #[.int .i64 p1, .int .i64 p2, .int .i64 p3] 23) = Vb at *
    rw [za] at kb
    clear za zb
    have a0 := ka.out.cell (i := 0) rfl
    have a1 := ka.out.cell (i := 1) rfl
    have a2 := ka.out.cell (i := 2) rfl
    have a3 := ka.out.cell (i := 3) rfl
    have a4 := ka.out.cell (i := 4) rfl
    have a5 := ka.out.cell (i := 5) rfl
    go_wp2_with fail
    clear a0 a1 a2 a3 a4 a5
    (((with_reducible refine (S.out _).mono ?_); rintro e w1 ⟨rfl, hb1⟩); replace HB := Lib.hid (HB.out.trans (hb1.mono HB.out.size)); replace ka := Lib.hid (ka.out.keep hb1); replace kb := Lib.hid (kb.out.keep hb1); clear hb1)
    clear S
    go_wp2
    go_ret
    exact ⟨by rw [E.out]; rfl, HB.out⟩
  | true =>
    rw [hr] at S
    by_cases c0 : l1 ≤ p1
    case neg =>
      have E : Hid (bxH l1 l2 l3 h1 h2 h3 p1 p2 p3 = false) := Lib.hid (by
        cases q : bxH l1 l2 l3 h1 h2 h3 p1 p2 p3 with
        | false => rfl
        | true =>
          have z := bxH_iff.1 q
          exact absurd z.2 (by omega))
      clear hr
      go_enter Try.func20, Try.ntmps20
      go_upto_region 1 with fail
      have hba := below_new1 w (.cells #[.int .i64 l1, .int .i64 l2, .int .i64 l3, .int .i64 h1, .int .i64 h2, .int .i64 h3] 25)
      have za : (w.alloc (.cells #[.int .i64 l1, .int .i64 l2, .int .i64 l3, .int .i64 h1, .int .i64 h2, .int .i64 h3] 25)).heap.size = w.heap.size + 1 := by simp
      have HB := Lib.hid hba
      have ka := Lib.hid (Lok.new w 25 #[.int .i64 l1, .int .i64 l2, .int .i64 l3, .int .i64 h1, .int .i64 h2, .int .i64 h3])
      clear hba
      generalize w.alloc (.cells #[.int .i64 l1, .int .i64 l2, .int .i64 l3, .int .i64 h1, .int .i64 h2, .int .i64 h3] 25) = Va at *
      have hbb := below_new1 Va (.cells #[.int .i64 p1, .int .i64 p2, .int .i64 p3] 23)
      replace ka := Lib.hid (ka.out.keep hbb)
      have zb : (Va.alloc (.cells #[.int .i64 p1, .int .i64 p2, .int .i64 p3] 23)).heap.size = Va.heap.size + 1 := by simp
      replace HB := Lib.hid (HB.out.trans (hbb.mono HB.out.size))
      have kb := Lib.hid (Lok.new Va 23 #[.int .i64 p1, .int .i64 p2, .int .i64 p3])
      clear hbb
      generalize Va.alloc (.cells #[.int .i64 p1, .int .i64 p2, .int .i64 p3] 23) = Vb at *
      rw [za] at kb
      clear za zb
      have a0 := ka.out.cell (i := 0) rfl
      have a1 := ka.out.cell (i := 1) rfl
      have a2 := ka.out.cell (i := 2) rfl
      have a3 := ka.out.cell (i := 3) rfl
      have a4 := ka.out.cell (i := 4) rfl
      have a5 := ka.out.cell (i := 5) rfl
      go_wp2_with fail
      clear a0 a1 a2 a3 a4 a5
      (((with_reducible refine (S.out _).mono ?_); rintro e w1 ⟨rfl, hb1⟩); replace HB := Lib.hid (HB.out.trans (hb1.mono HB.out.size)); replace ka := Lib.hid (ka.out.keep hb1); replace kb := Lib.hid (kb.out.keep hb1); clear hb1)
      clear S
      have a0 := ka.out.cell (i := 0) rfl
      have a1 := ka.out.cell (i := 1) rfl
      have a2 := ka.out.cell (i := 2) rfl
      have a3 := ka.out.cell (i := 3) rfl
      have a4 := ka.out.cell (i := 4) rfl
      have a5 := ka.out.cell (i := 5) rfl
      have b0 := kb.out.cell (i := 0) rfl
      have b1 := kb.out.cell (i := 1) rfl
      have b2 := kb.out.cell (i := 2) rfl
      go_wp2
      go_ret
      exact ⟨by rw [E.out]; rfl, HB.out⟩
    by_cases c1 : p1 ≤ h1
    case neg =>
      have E : Hid (bxH l1 l2 l3 h1 h2 h3 p1 p2 p3 = false) := Lib.hid (by
        cases q : bxH l1 l2 l3 h1 h2 h3 p1 p2 p3 with
        | false => rfl
        | true =>
          have z := bxH_iff.1 q
          exact absurd z.2 (by omega))
      clear hr
      go_enter Try.func20, Try.ntmps20
      go_upto_region 1 with fail
      have hba := below_new1 w (.cells #[.int .i64 l1, .int .i64 l2, .int .i64 l3, .int .i64 h1, .int .i64 h2, .int .i64 h3] 25)
      have za : (w.alloc (.cells #[.int .i64 l1, .int .i64 l2, .int .i64 l3, .int .i64 h1, .int .i64 h2, .int .i64 h3] 25)).heap.size = w.heap.size + 1 := by simp
      have HB := Lib.hid hba
      have ka := Lib.hid (Lok.new w 25 #[.int .i64 l1, .int .i64 l2, .int .i64 l3, .int .i64 h1, .int .i64 h2, .int .i64 h3])
      clear hba
      generalize w.alloc (.cells #[.int .i64 l1, .int .i64 l2, .int .i64 l3, .int .i64 h1, .int .i64 h2, .int .i64 h3] 25) = Va at *
      have hbb := below_new1 Va (.cells #[.int .i64 p1, .int .i64 p2, .int .i64 p3] 23)
      replace ka := Lib.hid (ka.out.keep hbb)
      have zb : (Va.alloc (.cells #[.int .i64 p1, .int .i64 p2, .int .i64 p3] 23)).heap.size = Va.heap.size + 1 := by simp
      replace HB := Lib.hid (HB.out.trans (hbb.mono HB.out.size))
      have kb := Lib.hid (Lok.new Va 23 #[.int .i64 p1, .int .i64 p2, .int .i64 p3])
      clear hbb
      generalize Va.alloc (.cells #[.int .i64 p1, .int .i64 p2, .int .i64 p3] 23) = Vb at *
      rw [za] at kb
      clear za zb
      have a0 := ka.out.cell (i := 0) rfl
      have a1 := ka.out.cell (i := 1) rfl
      have a2 := ka.out.cell (i := 2) rfl
      have a3 := ka.out.cell (i := 3) rfl
      have a4 := ka.out.cell (i := 4) rfl
      have a5 := ka.out.cell (i := 5) rfl
      go_wp2_with fail
      clear a0 a1 a2 a3 a4 a5
      (((with_reducible refine (S.out _).mono ?_); rintro e w1 ⟨rfl, hb1⟩); replace HB := Lib.hid (HB.out.trans (hb1.mono HB.out.size)); replace ka := Lib.hid (ka.out.keep hb1); replace kb := Lib.hid (kb.out.keep hb1); clear hb1)
      clear S
      have a0 := ka.out.cell (i := 0) rfl
      have a1 := ka.out.cell (i := 1) rfl
      have a2 := ka.out.cell (i := 2) rfl
      have a3 := ka.out.cell (i := 3) rfl
      have a4 := ka.out.cell (i := 4) rfl
      have a5 := ka.out.cell (i := 5) rfl
      have b0 := kb.out.cell (i := 0) rfl
      have b1 := kb.out.cell (i := 1) rfl
      have b2 := kb.out.cell (i := 2) rfl
      go_wp2
      go_ret
      exact ⟨by rw [E.out]; rfl, HB.out⟩
    by_cases c2 : l2 ≤ p2
    case neg =>
      have E : Hid (bxH l1 l2 l3 h1 h2 h3 p1 p2 p3 = false) := Lib.hid (by
        cases q : bxH l1 l2 l3 h1 h2 h3 p1 p2 p3 with
        | false => rfl
        | true =>
          have z := bxH_iff.1 q
          exact absurd z.2 (by omega))
      clear hr
      go_enter Try.func20, Try.ntmps20
      go_upto_region 1 with fail
      have hba := below_new1 w (.cells #[.int .i64 l1, .int .i64 l2, .int .i64 l3, .int .i64 h1, .int .i64 h2, .int .i64 h3] 25)
      have za : (w.alloc (.cells #[.int .i64 l1, .int .i64 l2, .int .i64 l3, .int .i64 h1, .int .i64 h2, .int .i64 h3] 25)).heap.size = w.heap.size + 1 := by simp
      have HB := Lib.hid hba
      have ka := Lib.hid (Lok.new w 25 #[.int .i64 l1, .int .i64 l2, .int .i64 l3, .int .i64 h1, .int .i64 h2, .int .i64 h3])
      clear hba
      generalize w.alloc (.cells #[.int .i64 l1, .int .i64 l2, .int .i64 l3, .int .i64 h1, .int .i64 h2, .int .i64 h3] 25) = Va at *
      have hbb := below_new1 Va (.cells #[.int .i64 p1, .int .i64 p2, .int .i64 p3] 23)
      replace ka := Lib.hid (ka.out.keep hbb)
      have zb : (Va.alloc (.cells #[.int .i64 p1, .int .i64 p2, .int .i64 p3] 23)).heap.size = Va.heap.size + 1 := by simp
      replace HB := Lib.hid (HB.out.trans (hbb.mono HB.out.size))
      have kb := Lib.hid (Lok.new Va 23 #[.int .i64 p1, .int .i64 p2, .int .i64 p3])
      clear hbb
      generalize Va.alloc (.cells #[.int .i64 p1, .int .i64 p2, .int .i64 p3] 23) = Vb at *
      rw [za] at kb
      clear za zb
      have a0 := ka.out.cell (i := 0) rfl
      have a1 := ka.out.cell (i := 1) rfl
      have a2 := ka.out.cell (i := 2) rfl
      have a3 := ka.out.cell (i := 3) rfl
      have a4 := ka.out.cell (i := 4) rfl
      have a5 := ka.out.cell (i := 5) rfl
      go_wp2_with fail
      clear a0 a1 a2 a3 a4 a5
      (((with_reducible refine (S.out _).mono ?_); rintro e w1 ⟨rfl, hb1⟩); replace HB := Lib.hid (HB.out.trans (hb1.mono HB.out.size)); replace ka := Lib.hid (ka.out.keep hb1); replace kb := Lib.hid (kb.out.keep hb1); clear hb1)
      clear S
      have a0 := ka.out.cell (i := 0) rfl
      have a1 := ka.out.cell (i := 1) rfl
      have a2 := ka.out.cell (i := 2) rfl
      have a3 := ka.out.cell (i := 3) rfl
      have a4 := ka.out.cell (i := 4) rfl
      have a5 := ka.out.cell (i := 5) rfl
      have b0 := kb.out.cell (i := 0) rfl
      have b1 := kb.out.cell (i := 1) rfl
      have b2 := kb.out.cell (i := 2) rfl
      go_wp2
      go_ret
      exact ⟨by rw [E.out]; rfl, HB.out⟩
    by_cases c3 : p2 ≤ h2
    case neg =>
      have E : Hid (bxH l1 l2 l3 h1 h2 h3 p1 p2 p3 = false) := Lib.hid (by
        cases q : bxH l1 l2 l3 h1 h2 h3 p1 p2 p3 with
        | false => rfl
        | true =>
          have z := bxH_iff.1 q
          exact absurd z.2 (by omega))
      clear hr
      go_enter Try.func20, Try.ntmps20
      go_upto_region 1 with fail
      have hba := below_new1 w (.cells #[.int .i64 l1, .int .i64 l2, .int .i64 l3, .int .i64 h1, .int .i64 h2, .int .i64 h3] 25)
      have za : (w.alloc (.cells #[.int .i64 l1, .int .i64 l2, .int .i64 l3, .int .i64 h1, .int .i64 h2, .int .i64 h3] 25)).heap.size = w.heap.size + 1 := by simp
      have HB := Lib.hid hba
      have ka := Lib.hid (Lok.new w 25 #[.int .i64 l1, .int .i64 l2, .int .i64 l3, .int .i64 h1, .int .i64 h2, .int .i64 h3])
      clear hba
      generalize w.alloc (.cells #[.int .i64 l1, .int .i64 l2, .int .i64 l3, .int .i64 h1, .int .i64 h2, .int .i64 h3] 25) = Va at *
      have hbb := below_new1 Va (.cells #[.int .i64 p1, .int .i64 p2, .int .i64 p3] 23)
      replace ka := Lib.hid (ka.out.keep hbb)
      have zb : (Va.alloc (.cells #[.int .i64 p1, .int .i64 p2, .int .i64 p3] 23)).heap.size = Va.heap.size + 1 := by simp
      replace HB := Lib.hid (HB.out.trans (hbb.mono HB.out.size))
      have kb := Lib.hid (Lok.new Va 23 #[.int .i64 p1, .int .i64 p2, .int .i64 p3])
      clear hbb
      generalize Va.alloc (.cells #[.int .i64 p1, .int .i64 p2, .int .i64 p3] 23) = Vb at *
      rw [za] at kb
      clear za zb
      have a0 := ka.out.cell (i := 0) rfl
      have a1 := ka.out.cell (i := 1) rfl
      have a2 := ka.out.cell (i := 2) rfl
      have a3 := ka.out.cell (i := 3) rfl
      have a4 := ka.out.cell (i := 4) rfl
      have a5 := ka.out.cell (i := 5) rfl
      go_wp2_with fail
      clear a0 a1 a2 a3 a4 a5
      (((with_reducible refine (S.out _).mono ?_); rintro e w1 ⟨rfl, hb1⟩); replace HB := Lib.hid (HB.out.trans (hb1.mono HB.out.size)); replace ka := Lib.hid (ka.out.keep hb1); replace kb := Lib.hid (kb.out.keep hb1); clear hb1)
      clear S
      have a0 := ka.out.cell (i := 0) rfl
      have a1 := ka.out.cell (i := 1) rfl
      have a2 := ka.out.cell (i := 2) rfl
      have a3 := ka.out.cell (i := 3) rfl
      have a4 := ka.out.cell (i := 4) rfl
      have a5 := ka.out.cell (i := 5) rfl
      have b0 := kb.out.cell (i := 0) rfl
      have b1 := kb.out.cell (i := 1) rfl
      have b2 := kb.out.cell (i := 2) rfl
      go_wp2
      go_ret
      exact ⟨by rw [E.out]; rfl, HB.out⟩
    by_cases c4 : l3 ≤ p3
    case neg =>
      have E : Hid (bxH l1 l2 l3 h1 h2 h3 p1 p2 p3 = false) := Lib.hid (by
        cases q : bxH l1 l2 l3 h1 h2 h3 p1 p2 p3 with
        | false => rfl
        | true =>
          have z := bxH_iff.1 q
          exact absurd z.2 (by omega))
      clear hr
      go_enter Try.func20, Try.ntmps20
      go_upto_region 1 with fail
      have hba := below_new1 w (.cells #[.int .i64 l1, .int .i64 l2, .int .i64 l3, .int .i64 h1, .int .i64 h2, .int .i64 h3] 25)
      have za : (w.alloc (.cells #[.int .i64 l1, .int .i64 l2, .int .i64 l3, .int .i64 h1, .int .i64 h2, .int .i64 h3] 25)).heap.size = w.heap.size + 1 := by simp
      have HB := Lib.hid hba
      have ka := Lib.hid (Lok.new w 25 #[.int .i64 l1, .int .i64 l2, .int .i64 l3, .int .i64 h1, .int .i64 h2, .int .i64 h3])
      clear hba
      generalize w.alloc (.cells #[.int .i64 l1, .int .i64 l2, .int .i64 l3, .int .i64 h1, .int .i64 h2, .int .i64 h3] 25) = Va at *
      have hbb := below_new1 Va (.cells #[.int .i64 p1, .int .i64 p2, .int .i64 p3] 23)
      replace ka := Lib.hid (ka.out.keep hbb)
      have zb : (Va.alloc (.cells #[.int .i64 p1, .int .i64 p2, .int .i64 p3] 23)).heap.size = Va.heap.size + 1 := by simp
      replace HB := Lib.hid (HB.out.trans (hbb.mono HB.out.size))
      have kb := Lib.hid (Lok.new Va 23 #[.int .i64 p1, .int .i64 p2, .int .i64 p3])
      clear hbb
      generalize Va.alloc (.cells #[.int .i64 p1, .int .i64 p2, .int .i64 p3] 23) = Vb at *
      rw [za] at kb
      clear za zb
      have a0 := ka.out.cell (i := 0) rfl
      have a1 := ka.out.cell (i := 1) rfl
      have a2 := ka.out.cell (i := 2) rfl
      have a3 := ka.out.cell (i := 3) rfl
      have a4 := ka.out.cell (i := 4) rfl
      have a5 := ka.out.cell (i := 5) rfl
      go_wp2_with fail
      clear a0 a1 a2 a3 a4 a5
      (((with_reducible refine (S.out _).mono ?_); rintro e w1 ⟨rfl, hb1⟩); replace HB := Lib.hid (HB.out.trans (hb1.mono HB.out.size)); replace ka := Lib.hid (ka.out.keep hb1); replace kb := Lib.hid (kb.out.keep hb1); clear hb1)
      clear S
      have a0 := ka.out.cell (i := 0) rfl
      have a1 := ka.out.cell (i := 1) rfl
      have a2 := ka.out.cell (i := 2) rfl
      have a3 := ka.out.cell (i := 3) rfl
      have a4 := ka.out.cell (i := 4) rfl
      have a5 := ka.out.cell (i := 5) rfl
      have b0 := kb.out.cell (i := 0) rfl
      have b1 := kb.out.cell (i := 1) rfl
      have b2 := kb.out.cell (i := 2) rfl
      go_wp2
      go_ret
      exact ⟨by rw [E.out]; rfl, HB.out⟩
    have E : Hid (bxH l1 l2 l3 h1 h2 h3 p1 p2 p3 = decide (p3 ≤ h3)) := Lib.hid (by
      rw [Bool.eq_iff_iff, bxH_iff, decide_eq_true_iff]
      exact ⟨fun z => z.2.2.2.2, fun z => ⟨hr, ⟨c0, c2, c4⟩, c1, c3, z⟩⟩)
    clear hr
    go_enter Try.func20, Try.ntmps20
    go_upto_region 1 with fail
    have hba := below_new1 w (.cells #[.int .i64 l1, .int .i64 l2, .int .i64 l3, .int .i64 h1, .int .i64 h2, .int .i64 h3] 25)
    have za : (w.alloc (.cells #[.int .i64 l1, .int .i64 l2, .int .i64 l3, .int .i64 h1, .int .i64 h2, .int .i64 h3] 25)).heap.size = w.heap.size + 1 := by simp
    have HB := Lib.hid hba
    have ka := Lib.hid (Lok.new w 25 #[.int .i64 l1, .int .i64 l2, .int .i64 l3, .int .i64 h1, .int .i64 h2, .int .i64 h3])
    clear hba
    generalize w.alloc (.cells #[.int .i64 l1, .int .i64 l2, .int .i64 l3, .int .i64 h1, .int .i64 h2, .int .i64 h3] 25) = Va at *
    have hbb := below_new1 Va (.cells #[.int .i64 p1, .int .i64 p2, .int .i64 p3] 23)
    replace ka := Lib.hid (ka.out.keep hbb)
    have zb : (Va.alloc (.cells #[.int .i64 p1, .int .i64 p2, .int .i64 p3] 23)).heap.size = Va.heap.size + 1 := by simp
    replace HB := Lib.hid (HB.out.trans (hbb.mono HB.out.size))
    have kb := Lib.hid (Lok.new Va 23 #[.int .i64 p1, .int .i64 p2, .int .i64 p3])
    clear hbb
    generalize Va.alloc (.cells #[.int .i64 p1, .int .i64 p2, .int .i64 p3] 23) = Vb at *
    rw [za] at kb
    clear za zb
    have a0 := ka.out.cell (i := 0) rfl
    have a1 := ka.out.cell (i := 1) rfl
    have a2 := ka.out.cell (i := 2) rfl
    have a3 := ka.out.cell (i := 3) rfl
    have a4 := ka.out.cell (i := 4) rfl
    have a5 := ka.out.cell (i := 5) rfl
    go_wp2_with fail
    clear a0 a1 a2 a3 a4 a5
    (((with_reducible refine (S.out _).mono ?_); rintro e w1 ⟨rfl, hb1⟩); replace HB := Lib.hid (HB.out.trans (hb1.mono HB.out.size)); replace ka := Lib.hid (ka.out.keep hb1); replace kb := Lib.hid (kb.out.keep hb1); clear hb1)
    clear S
    have a0 := ka.out.cell (i := 0) rfl
    have a1 := ka.out.cell (i := 1) rfl
    have a2 := ka.out.cell (i := 2) rfl
    have a3 := ka.out.cell (i := 3) rfl
    have a4 := ka.out.cell (i := 4) rfl
    have a5 := ka.out.cell (i := 5) rfl
    have b0 := kb.out.cell (i := 0) rfl
    have b1 := kb.out.cell (i := 1) rfl
    have b2 := kb.out.cell (i := 2) rfl
    go_wp2
    go_ret
    exact ⟨by rw [E.out]; rfl, HB.out⟩
set_option maxRecDepth 100000 in
set_option maxHeartbeats 4000000 in
theorem rlongest_any (l1 l2 l3 h1 h2 h3 : Int) (w : World) :
    Calls Try.prog 15 #[.agg #[.int .i64 l1, .int .i64 l2, .int .i64 l3, .int .i64 h1, .int .i64 h2, .int .i64 h3]] w fun e' w' => e' = .returned (.tuple #[.int .i64 (lgV (bxR l1 l2 l3 h1 h2 h3) l1 l2 l3 h1 h2 h3), .int .i64 (aE (bxR l1 l2 l3 h1 h2 h3))]) ∧ Below w.heap.size w w' := by
  have HB := Lib.hid (Below.refl w.heap.size w)
  have S := Lib.hid (fun W => rslis_any l1 l2 l3 h1 h2 h3 W)
  cases ht : bxR l1 l2 l3 h1 h2 h3 with
  | false =>
    rw [ht] at S
    clear ht
    rw [show lgV false l1 l2 l3 h1 h2 h3 = 0 from rfl, show aE false = 1 from rfl]
    go_enter Try.func15, Try.ntmps15
    go_upto_region 1 with fail
    have hba := below_new1 w (.cells #[.int .i64 l1, .int .i64 l2, .int .i64 l3, .int .i64 h1, .int .i64 h2, .int .i64 h3] 25)
    have za : (w.alloc (.cells #[.int .i64 l1, .int .i64 l2, .int .i64 l3, .int .i64 h1, .int .i64 h2, .int .i64 h3] 25)).heap.size = w.heap.size + 1 := by simp
    have HB := Lib.hid hba
    have ka := Lib.hid (Lok.new w 25 #[.int .i64 l1, .int .i64 l2, .int .i64 l3, .int .i64 h1, .int .i64 h2, .int .i64 h3])
    clear hba
    generalize w.alloc (.cells #[.int .i64 l1, .int .i64 l2, .int .i64 l3, .int .i64 h1, .int .i64 h2, .int .i64 h3] 25) = Va at *
    clear za
    have a0 := ka.out.cell (i := 0) rfl
    have a1 := ka.out.cell (i := 1) rfl
    have a2 := ka.out.cell (i := 2) rfl
    have a3 := ka.out.cell (i := 3) rfl
    have a4 := ka.out.cell (i := 4) rfl
    have a5 := ka.out.cell (i := 5) rfl
    go_wp2_with fail
    clear a0 a1 a2 a3 a4 a5
    (((with_reducible refine (S.out _).mono ?_); rintro e w1 ⟨rfl, hb1⟩); replace HB := Lib.hid (HB.out.trans (hb1.mono HB.out.size)); replace ka := Lib.hid (ka.out.keep hb1); clear hb1)
    clear ka
    go_wp2
    go_ret2
    exact ⟨rfl, HB.out⟩
  | true =>
    rw [ht] at S
    obtain ⟨⟨sl, sh⟩, -⟩ := bxR_iff.1 ht
    rw [show lgV true l1 l2 l3 h1 h2 h3 = lgF l1 l2 l3 h1 h2 h3 3 from rfl, show aE true = 0 from rfl, lg_ways]
    rw [s3_iff] at sl sh
    unfold SM at sl sh
    obtain ⟨x, ex⟩ : ∃ x, x = h1 - l1 := ⟨_, rfl⟩
    obtain ⟨y, ey⟩ : ∃ y, y = h2 - l2 := ⟨_, rfl⟩
    obtain ⟨z, ez⟩ : ∃ z, z = h3 - l3 := ⟨_, rfl⟩
    have w1 : IntKind.i64.wrap (h1 - l1) = x := by rw [ex]; exact IntWalk.i64_in _ (by omega)
    have w2 : IntKind.i64.wrap (h2 - l2) = y := by rw [ey]; exact IntWalk.i64_in _ (by omega)
    have w3 : IntKind.i64.wrap (h3 - l3) = z := by rw [ez]; exact IntWalk.i64_in _ (by omega)
    rw [← ex, ← ey, ← ez]
    clear ex ey ez sl sh ht
    by_cases p : y ≤ x
    · by_cases q : z ≤ x
      · rw [if_pos ⟨p, q⟩]
        go_enter Try.func15, Try.ntmps15
        go_upto_region 1 with fail
        have hba := below_new1 w (.cells #[.int .i64 l1, .int .i64 l2, .int .i64 l3, .int .i64 h1, .int .i64 h2, .int .i64 h3] 25)
        have za : (w.alloc (.cells #[.int .i64 l1, .int .i64 l2, .int .i64 l3, .int .i64 h1, .int .i64 h2, .int .i64 h3] 25)).heap.size = w.heap.size + 1 := by simp
        have HB := Lib.hid hba
        have ka := Lib.hid (Lok.new w 25 #[.int .i64 l1, .int .i64 l2, .int .i64 l3, .int .i64 h1, .int .i64 h2, .int .i64 h3])
        clear hba
        generalize w.alloc (.cells #[.int .i64 l1, .int .i64 l2, .int .i64 l3, .int .i64 h1, .int .i64 h2, .int .i64 h3] 25) = Va at *
        clear za
        have a0 := ka.out.cell (i := 0) rfl
        have a1 := ka.out.cell (i := 1) rfl
        have a2 := ka.out.cell (i := 2) rfl
        have a3 := ka.out.cell (i := 3) rfl
        have a4 := ka.out.cell (i := 4) rfl
        have a5 := ka.out.cell (i := 5) rfl
        go_wp2_with fail
        clear a0 a1 a2 a3 a4 a5
        (((with_reducible refine (S.out _).mono ?_); rintro e w1 ⟨rfl, hb1⟩); replace HB := Lib.hid (HB.out.trans (hb1.mono HB.out.size)); replace ka := Lib.hid (ka.out.keep hb1); clear hb1)
        clear S
        have a0 := ka.out.cell (i := 0) rfl
        have a1 := ka.out.cell (i := 1) rfl
        have a2 := ka.out.cell (i := 2) rfl
        have a3 := ka.out.cell (i := 3) rfl
        have a4 := ka.out.cell (i := 4) rfl
        have a5 := ka.out.cell (i := 5) rfl
        go_wp2
        go_ret2
        exact ⟨rfl, HB.out⟩
      · rw [if_neg (fun h => q h.2)]
        by_cases r : z ≤ y
        · exact absurd (Int.le_trans r p) q
        · rw [if_neg r]
          go_enter Try.func15, Try.ntmps15
          go_upto_region 1 with fail
          have hba := below_new1 w (.cells #[.int .i64 l1, .int .i64 l2, .int .i64 l3, .int .i64 h1, .int .i64 h2, .int .i64 h3] 25)
          have za : (w.alloc (.cells #[.int .i64 l1, .int .i64 l2, .int .i64 l3, .int .i64 h1, .int .i64 h2, .int .i64 h3] 25)).heap.size = w.heap.size + 1 := by simp
          have HB := Lib.hid hba
          have ka := Lib.hid (Lok.new w 25 #[.int .i64 l1, .int .i64 l2, .int .i64 l3, .int .i64 h1, .int .i64 h2, .int .i64 h3])
          clear hba
          generalize w.alloc (.cells #[.int .i64 l1, .int .i64 l2, .int .i64 l3, .int .i64 h1, .int .i64 h2, .int .i64 h3] 25) = Va at *
          clear za
          have a0 := ka.out.cell (i := 0) rfl
          have a1 := ka.out.cell (i := 1) rfl
          have a2 := ka.out.cell (i := 2) rfl
          have a3 := ka.out.cell (i := 3) rfl
          have a4 := ka.out.cell (i := 4) rfl
          have a5 := ka.out.cell (i := 5) rfl
          go_wp2_with fail
          clear a0 a1 a2 a3 a4 a5
          (((with_reducible refine (S.out _).mono ?_); rintro e w1 ⟨rfl, hb1⟩); replace HB := Lib.hid (HB.out.trans (hb1.mono HB.out.size)); replace ka := Lib.hid (ka.out.keep hb1); clear hb1)
          clear S
          have a0 := ka.out.cell (i := 0) rfl
          have a1 := ka.out.cell (i := 1) rfl
          have a2 := ka.out.cell (i := 2) rfl
          have a3 := ka.out.cell (i := 3) rfl
          have a4 := ka.out.cell (i := 4) rfl
          have a5 := ka.out.cell (i := 5) rfl
          go_wp2
          go_ret2
          exact ⟨rfl, HB.out⟩
    · rw [if_neg (fun h => p h.1)]
      by_cases r : z ≤ y
      · rw [if_pos r]
        go_enter Try.func15, Try.ntmps15
        go_upto_region 1 with fail
        have hba := below_new1 w (.cells #[.int .i64 l1, .int .i64 l2, .int .i64 l3, .int .i64 h1, .int .i64 h2, .int .i64 h3] 25)
        have za : (w.alloc (.cells #[.int .i64 l1, .int .i64 l2, .int .i64 l3, .int .i64 h1, .int .i64 h2, .int .i64 h3] 25)).heap.size = w.heap.size + 1 := by simp
        have HB := Lib.hid hba
        have ka := Lib.hid (Lok.new w 25 #[.int .i64 l1, .int .i64 l2, .int .i64 l3, .int .i64 h1, .int .i64 h2, .int .i64 h3])
        clear hba
        generalize w.alloc (.cells #[.int .i64 l1, .int .i64 l2, .int .i64 l3, .int .i64 h1, .int .i64 h2, .int .i64 h3] 25) = Va at *
        clear za
        have a0 := ka.out.cell (i := 0) rfl
        have a1 := ka.out.cell (i := 1) rfl
        have a2 := ka.out.cell (i := 2) rfl
        have a3 := ka.out.cell (i := 3) rfl
        have a4 := ka.out.cell (i := 4) rfl
        have a5 := ka.out.cell (i := 5) rfl
        go_wp2_with fail
        clear a0 a1 a2 a3 a4 a5
        (((with_reducible refine (S.out _).mono ?_); rintro e w1 ⟨rfl, hb1⟩); replace HB := Lib.hid (HB.out.trans (hb1.mono HB.out.size)); replace ka := Lib.hid (ka.out.keep hb1); clear hb1)
        clear S
        have a0 := ka.out.cell (i := 0) rfl
        have a1 := ka.out.cell (i := 1) rfl
        have a2 := ka.out.cell (i := 2) rfl
        have a3 := ka.out.cell (i := 3) rfl
        have a4 := ka.out.cell (i := 4) rfl
        have a5 := ka.out.cell (i := 5) rfl
        go_wp2
        go_ret2
        exact ⟨rfl, HB.out⟩
      · rw [if_neg r]
        go_enter Try.func15, Try.ntmps15
        go_upto_region 1 with fail
        have hba := below_new1 w (.cells #[.int .i64 l1, .int .i64 l2, .int .i64 l3, .int .i64 h1, .int .i64 h2, .int .i64 h3] 25)
        have za : (w.alloc (.cells #[.int .i64 l1, .int .i64 l2, .int .i64 l3, .int .i64 h1, .int .i64 h2, .int .i64 h3] 25)).heap.size = w.heap.size + 1 := by simp
        have HB := Lib.hid hba
        have ka := Lib.hid (Lok.new w 25 #[.int .i64 l1, .int .i64 l2, .int .i64 l3, .int .i64 h1, .int .i64 h2, .int .i64 h3])
        clear hba
        generalize w.alloc (.cells #[.int .i64 l1, .int .i64 l2, .int .i64 l3, .int .i64 h1, .int .i64 h2, .int .i64 h3] 25) = Va at *
        clear za
        have a0 := ka.out.cell (i := 0) rfl
        have a1 := ka.out.cell (i := 1) rfl
        have a2 := ka.out.cell (i := 2) rfl
        have a3 := ka.out.cell (i := 3) rfl
        have a4 := ka.out.cell (i := 4) rfl
        have a5 := ka.out.cell (i := 5) rfl
        go_wp2_with fail
        clear a0 a1 a2 a3 a4 a5
        (((with_reducible refine (S.out _).mono ?_); rintro e w1 ⟨rfl, hb1⟩); replace HB := Lib.hid (HB.out.trans (hb1.mono HB.out.size)); replace ka := Lib.hid (ka.out.keep hb1); clear hb1)
        clear S
        have a0 := ka.out.cell (i := 0) rfl
        have a1 := ka.out.cell (i := 1) rfl
        have a2 := ka.out.cell (i := 2) rfl
        have a3 := ka.out.cell (i := 3) rfl
        have a4 := ka.out.cell (i := 4) rfl
        have a5 := ka.out.cell (i := 5) rfl
        go_wp2
        go_ret2
        exact ⟨rfl, HB.out⟩
end Go.Proofs.Ytfghjfgdjlkooaa
