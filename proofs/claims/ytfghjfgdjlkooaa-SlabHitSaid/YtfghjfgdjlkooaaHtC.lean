/-
  Contracts of package hit: Hit. (gen/HtC.py)
-/
import Derived.Test.YtfghjfgdjlkooaaHtA
namespace Go.Proofs.Ytfghjfgdjlkooaa
open Go.RowKit

/-- What Hit tells, if all are small, or not. -/
def hV (t b : Bool) : Bool := t && b
theorem hV_no (b : Bool) : hV false b = false := rfl
theorem hV_yes (b : Bool) : hV true b = b := rfl
theorem so_bd (n : Int) : -1 ≤ ordI n 0 ∧ ordI n 0 ≤ 1 := by rcases ordI_ways n 0 with ⟨_, e⟩ | ⟨_, e⟩ | ⟨_, e⟩ <;> rw [e] <;> omega
theorem so_mul {x y : Int} (hx : -1 ≤ x ∧ x ≤ 1) (hy : -1 ≤ y ∧ y ≤ 1) : -1 ≤ x * y ∧ x * y ≤ 1 := by
  rcases (show x = -1 ∨ x = 0 ∨ x = 1 by omega) with rfl | rfl | rfl <;> omega
set_option maxRecDepth 100000 in
set_option maxHeartbeats 8000000 in
theorem hit_any (a1 a2 a3 b1 b2 b3 p1 p2 p3 q1 q2 q3 r1 r2 r3 : Int) (t : Bool) (ht : (s3 a1 a2 a3 && s3 b1 b2 b3 && s3 p1 p2 p3 && s3 q1 q2 q3 && s3 r1 r2 r3) = t) (w : World) :
    Calls Try.prog 21 #[.agg #[.int .i64 a1, .int .i64 a2, .int .i64 a3], .agg #[.int .i64 b1, .int .i64 b2, .int .i64 b3], .agg #[.int .i64 p1, .int .i64 p2, .int .i64 p3, .int .i64 q1, .int .i64 q2, .int .i64 q3, .int .i64 r1, .int .i64 r2, .int .i64 r3]] w fun e' w' => e' = .returned (.tuple #[.bool (hV t (htB a1 a2 a3 b1 b2 b3 p1 p2 p3 q1 q2 q3 r1 r2 r3)), .int .i64 (rE t)]) ∧ Below w.heap.size w w' := by
  have HB := Lib.hid (Below.refl w.heap.size w)
  obtain ⟨ta, hta⟩ : ∃ v, (s3 p1 p2 p3 && s3 q1 q2 q3 && s3 r1 r2 r3 && s3 a1 a2 a3) = v := ⟨_, rfl⟩
  obtain ⟨tb, htb⟩ : ∃ v, (s3 p1 p2 p3 && s3 q1 q2 q3 && s3 r1 r2 r3 && s3 b1 b2 b3) = v := ⟨_, rfl⟩
  have SA := Lib.hid (fun W => side_any a1 a2 a3 p1 p2 p3 q1 q2 q3 r1 r2 r3 ta hta W)
  have SB := Lib.hid (fun W => side_any b1 b2 b3 p1 p2 p3 q1 q2 q3 r1 r2 r3 tb htb W)
  cases ta with
  | false =>
    obtain rfl : false = t := by
      rw [← ht]
      revert hta
      cases s3 p1 p2 p3 <;> cases s3 q1 q2 q3 <;> cases s3 r1 r2 r3 <;> cases s3 a1 a2 a3 <;> simp
    rw [hV_no, show rE false = 5 from rfl]
    rw [show rE false = 5 from rfl] at SA
    generalize ordI (vF false (vo p1 p2 p3 q1 q2 q3 r1 r2 r3 a1 a2 a3)) 0 = m at *
    clear ht hta htb SB
    go_enter Try.func21, Try.ntmps21
    go_upto_region 1 with fail
    have hba := below_new1 w (.cells #[.int .i64 a1, .int .i64 a2, .int .i64 a3] 23)
    have za : (w.alloc (.cells #[.int .i64 a1, .int .i64 a2, .int .i64 a3] 23)).heap.size = w.heap.size + 1 := by simp
    have HB := Lib.hid hba
    have ka := Lib.hid (Lok.new w 23 #[.int .i64 a1, .int .i64 a2, .int .i64 a3])
    clear hba
    generalize w.alloc (.cells #[.int .i64 a1, .int .i64 a2, .int .i64 a3] 23) = Va at *
    have hbb := below_new1 Va (.cells #[.int .i64 b1, .int .i64 b2, .int .i64 b3] 23)
    replace ka := Lib.hid (ka.out.keep hbb)
    have zb : (Va.alloc (.cells #[.int .i64 b1, .int .i64 b2, .int .i64 b3] 23)).heap.size = Va.heap.size + 1 := by simp
    replace HB := Lib.hid (HB.out.trans (hbb.mono HB.out.size))
    have kb := Lib.hid (Lok.new Va 23 #[.int .i64 b1, .int .i64 b2, .int .i64 b3])
    clear hbb
    generalize Va.alloc (.cells #[.int .i64 b1, .int .i64 b2, .int .i64 b3] 23) = Vb at *
    rw [za] at kb zb
    have hbt := below_new1 Vb (.cells #[.int .i64 p1, .int .i64 p2, .int .i64 p3, .int .i64 q1, .int .i64 q2, .int .i64 q3, .int .i64 r1, .int .i64 r2, .int .i64 r3] 43)
    replace ka := Lib.hid (ka.out.keep hbt)
    replace kb := Lib.hid (kb.out.keep hbt)
    have zt : (Vb.alloc (.cells #[.int .i64 p1, .int .i64 p2, .int .i64 p3, .int .i64 q1, .int .i64 q2, .int .i64 q3, .int .i64 r1, .int .i64 r2, .int .i64 r3] 43)).heap.size = Vb.heap.size + 1 := by simp
    replace HB := Lib.hid (HB.out.trans (hbt.mono HB.out.size))
    have kt := Lib.hid (Lok.new Vb 43 #[.int .i64 p1, .int .i64 p2, .int .i64 p3, .int .i64 q1, .int .i64 q2, .int .i64 q3, .int .i64 r1, .int .i64 r2, .int .i64 r3])
    clear hbt
    generalize Vb.alloc (.cells #[.int .i64 p1, .int .i64 p2, .int .i64 p3, .int .i64 q1, .int .i64 q2, .int .i64 q3, .int .i64 r1, .int .i64 r2, .int .i64 r3] 43) = Vt at *
    rw [zb] at kt
    clear za zb zt
    have a0 := ka.out.cell (i := 0) rfl
    have a1 := ka.out.cell (i := 1) rfl
    have a2 := ka.out.cell (i := 2) rfl
    have t0 := kt.out.cell (i := 0) rfl
    have t1 := kt.out.cell (i := 1) rfl
    have t2 := kt.out.cell (i := 2) rfl
    have t3 := kt.out.cell (i := 3) rfl
    have t4 := kt.out.cell (i := 4) rfl
    have t5 := kt.out.cell (i := 5) rfl
    have t6 := kt.out.cell (i := 6) rfl
    have t7 := kt.out.cell (i := 7) rfl
    have t8 := kt.out.cell (i := 8) rfl
    go_wp2_with fail
    clear a0 a1 a2 t0 t1 t2 t3 t4 t5 t6 t7 t8
    (((with_reducible refine (SA.out _).mono ?_); rintro e w1 ⟨rfl, hb1⟩); replace HB := Lib.hid (HB.out.trans (hb1.mono HB.out.size)); replace ka := Lib.hid (ka.out.keep hb1); replace kb := Lib.hid (kb.out.keep hb1); replace kt := Lib.hid (kt.out.keep hb1); clear hb1)
    go_wp2
    go_ret2
    exact ⟨rfl, HB.out⟩
  | true =>
    rw [vF_yes, show rE true = 0 from rfl] at SA
    cases tb with
    | false =>
      obtain rfl : false = t := by
        rw [← ht]
        revert htb
        cases s3 p1 p2 p3 <;> cases s3 q1 q2 q3 <;> cases s3 r1 r2 r3 <;> cases s3 b1 b2 b3 <;> simp
      rw [hV_no, show rE false = 5 from rfl]
      rw [show rE false = 5 from rfl] at SB
      generalize ordI (vF false (vo p1 p2 p3 q1 q2 q3 r1 r2 r3 b1 b2 b3)) 0 = m at *
      generalize ordI (vo p1 p2 p3 q1 q2 q3 r1 r2 r3 a1 a2 a3) 0 = n at *
      clear ht hta htb
      go_enter Try.func21, Try.ntmps21
      go_upto_region 1 with fail
      have hba := below_new1 w (.cells #[.int .i64 a1, .int .i64 a2, .int .i64 a3] 23)
      have za : (w.alloc (.cells #[.int .i64 a1, .int .i64 a2, .int .i64 a3] 23)).heap.size = w.heap.size + 1 := by simp
      have HB := Lib.hid hba
      have ka := Lib.hid (Lok.new w 23 #[.int .i64 a1, .int .i64 a2, .int .i64 a3])
      clear hba
      generalize w.alloc (.cells #[.int .i64 a1, .int .i64 a2, .int .i64 a3] 23) = Va at *
      have hbb := below_new1 Va (.cells #[.int .i64 b1, .int .i64 b2, .int .i64 b3] 23)
      replace ka := Lib.hid (ka.out.keep hbb)
      have zb : (Va.alloc (.cells #[.int .i64 b1, .int .i64 b2, .int .i64 b3] 23)).heap.size = Va.heap.size + 1 := by simp
      replace HB := Lib.hid (HB.out.trans (hbb.mono HB.out.size))
      have kb := Lib.hid (Lok.new Va 23 #[.int .i64 b1, .int .i64 b2, .int .i64 b3])
      clear hbb
      generalize Va.alloc (.cells #[.int .i64 b1, .int .i64 b2, .int .i64 b3] 23) = Vb at *
      rw [za] at kb zb
      have hbt := below_new1 Vb (.cells #[.int .i64 p1, .int .i64 p2, .int .i64 p3, .int .i64 q1, .int .i64 q2, .int .i64 q3, .int .i64 r1, .int .i64 r2, .int .i64 r3] 43)
      replace ka := Lib.hid (ka.out.keep hbt)
      replace kb := Lib.hid (kb.out.keep hbt)
      have zt : (Vb.alloc (.cells #[.int .i64 p1, .int .i64 p2, .int .i64 p3, .int .i64 q1, .int .i64 q2, .int .i64 q3, .int .i64 r1, .int .i64 r2, .int .i64 r3] 43)).heap.size = Vb.heap.size + 1 := by simp
      replace HB := Lib.hid (HB.out.trans (hbt.mono HB.out.size))
      have kt := Lib.hid (Lok.new Vb 43 #[.int .i64 p1, .int .i64 p2, .int .i64 p3, .int .i64 q1, .int .i64 q2, .int .i64 q3, .int .i64 r1, .int .i64 r2, .int .i64 r3])
      clear hbt
      generalize Vb.alloc (.cells #[.int .i64 p1, .int .i64 p2, .int .i64 p3, .int .i64 q1, .int .i64 q2, .int .i64 q3, .int .i64 r1, .int .i64 r2, .int .i64 r3] 43) = Vt at *
      rw [zb] at kt
      clear za zb zt
      have a0 := ka.out.cell (i := 0) rfl
      have a1 := ka.out.cell (i := 1) rfl
      have a2 := ka.out.cell (i := 2) rfl
      have t0 := kt.out.cell (i := 0) rfl
      have t1 := kt.out.cell (i := 1) rfl
      have t2 := kt.out.cell (i := 2) rfl
      have t3 := kt.out.cell (i := 3) rfl
      have t4 := kt.out.cell (i := 4) rfl
      have t5 := kt.out.cell (i := 5) rfl
      have t6 := kt.out.cell (i := 6) rfl
      have t7 := kt.out.cell (i := 7) rfl
      have t8 := kt.out.cell (i := 8) rfl
      go_wp2_with fail
      clear a0 a1 a2 t0 t1 t2 t3 t4 t5 t6 t7 t8
      (((with_reducible refine (SA.out _).mono ?_); rintro e w1 ⟨rfl, hb1⟩); replace HB := Lib.hid (HB.out.trans (hb1.mono HB.out.size)); replace ka := Lib.hid (ka.out.keep hb1); replace kb := Lib.hid (kb.out.keep hb1); replace kt := Lib.hid (kt.out.keep hb1); clear hb1)
      have b0 := kb.out.cell (i := 0) rfl
      have b1 := kb.out.cell (i := 1) rfl
      have b2 := kb.out.cell (i := 2) rfl
      have t0 := kt.out.cell (i := 0) rfl
      have t1 := kt.out.cell (i := 1) rfl
      have t2 := kt.out.cell (i := 2) rfl
      have t3 := kt.out.cell (i := 3) rfl
      have t4 := kt.out.cell (i := 4) rfl
      have t5 := kt.out.cell (i := 5) rfl
      have t6 := kt.out.cell (i := 6) rfl
      have t7 := kt.out.cell (i := 7) rfl
      have t8 := kt.out.cell (i := 8) rfl
      go_wp2_with fail
      clear b0 b1 b2 t0 t1 t2 t3 t4 t5 t6 t7 t8
      (((with_reducible refine (SB.out _).mono ?_); rintro e w2 ⟨rfl, hb2⟩); replace HB := Lib.hid (HB.out.trans (hb2.mono HB.out.size)); replace ka := Lib.hid (ka.out.keep hb2); replace kb := Lib.hid (kb.out.keep hb2); replace kt := Lib.hid (kt.out.keep hb2); clear hb2)
      go_wp2
      go_ret2
      exact ⟨rfl, HB.out⟩
    | true =>
      rw [vF_yes, show rE true = 0 from rfl] at SB
      rw [Bool.and_eq_true, Bool.and_eq_true, Bool.and_eq_true] at hta htb
      obtain ⟨⟨⟨hp, hq⟩, hr⟩, ha⟩ := hta
      obtain ⟨-, hb⟩ := htb
      obtain rfl : true = t := by rw [← ht, ha, hb, hp, hq, hr]; rfl
      rw [hV_yes, show rE true = 0 from rfl]
      clear ht
      have O := Lib.hid (fun (ga gb : Nat) W (ka : Lok W ga 23 #[.int .i64 a1, .int .i64 a2, .int .i64 a3]) (kb : Lok W gb 23 #[.int .i64 b1, .int .i64 b2, .int .i64 b3]) => oneWay_any p1 p2 p3 q1 q2 q3 r1 r2 r3 _ _ _ (.pointer (some ⟨ga, 0, none⟩)) (.pointer (some ⟨gb, 0, none⟩)) W
        (fun W' h => passing_any a1 a2 a3 b1 b2 b3 p1 p2 p3 q1 q2 q3 (by rw [ha, hb, hp, hq]; rfl) ga gb W' (ka.keep h) (kb.keep h)) (fun W' h => passing_any a1 a2 a3 b1 b2 b3 q1 q2 q3 r1 r2 r3 (by rw [ha, hb, hq, hr]; rfl) ga gb W' (ka.keep h) (kb.keep h)) (fun W' h => passing_any a1 a2 a3 b1 b2 b3 r1 r2 r3 p1 p2 p3 (by rw [ha, hb, hr, hp]; rfl) ga gb W' (ka.keep h) (kb.keep h)))
      simp only [owB_ord] at O
      unfold htB hitP
      generalize (decide (0 ≤ vo a1 a2 a3 b1 b2 b3 p1 p2 p3 q1 q2 q3 ∧ 0 ≤ vo a1 a2 a3 b1 b2 b3 q1 q2 q3 r1 r2 r3 ∧ 0 ≤ vo a1 a2 a3 b1 b2 b3 r1 r2 r3 p1 p2 p3) || decide (vo a1 a2 a3 b1 b2 b3 p1 p2 p3 q1 q2 q3 ≤ 0 ∧ vo a1 a2 a3 b1 b2 b3 q1 q2 q3 r1 r2 r3 ≤ 0 ∧ vo a1 a2 a3 b1 b2 b3 r1 r2 r3 p1 p2 p3 ≤ 0)) = z at *
      have i1 := so_bd (vo p1 p2 p3 q1 q2 q3 r1 r2 r3 a1 a2 a3)
      have i2 := so_bd (vo p1 p2 p3 q1 q2 q3 r1 r2 r3 b1 b2 b3)
      generalize ordI (vo p1 p2 p3 q1 q2 q3 r1 r2 r3 a1 a2 a3) 0 = m at *
      generalize ordI (vo p1 p2 p3 q1 q2 q3 r1 r2 r3 b1 b2 b3) 0 = n at *
      have i3 := so_mul i1 i2
      obtain ⟨mn, hmn⟩ : ∃ v, m * n = v := ⟨_, rfl⟩
      rw [hmn] at i3
      have wm : IntKind.i64.wrap (m * n) = mn := by rw [hmn]; exact IntWalk.i64_in _ (by omega)
      rw [hmn]
      clear i1 i2 ha hb hp hq hr hmn
      by_cases hneg : mn < 0
      · rw [show ((mn == -1) && z) = z from by rw [show mn = -1 by omega, show ((-1 : Int) == -1) = true from rfl, Bool.true_and]]
        clear i3
        go_enter Try.func21, Try.ntmps21
        go_upto_region 1 with fail
        have hba := below_new1 w (.cells #[.int .i64 a1, .int .i64 a2, .int .i64 a3] 23)
        have za : (w.alloc (.cells #[.int .i64 a1, .int .i64 a2, .int .i64 a3] 23)).heap.size = w.heap.size + 1 := by simp
        have HB := Lib.hid hba
        have ka := Lib.hid (Lok.new w 23 #[.int .i64 a1, .int .i64 a2, .int .i64 a3])
        clear hba
        generalize w.alloc (.cells #[.int .i64 a1, .int .i64 a2, .int .i64 a3] 23) = Va at *
        have hbb := below_new1 Va (.cells #[.int .i64 b1, .int .i64 b2, .int .i64 b3] 23)
        replace ka := Lib.hid (ka.out.keep hbb)
        have zb : (Va.alloc (.cells #[.int .i64 b1, .int .i64 b2, .int .i64 b3] 23)).heap.size = Va.heap.size + 1 := by simp
        replace HB := Lib.hid (HB.out.trans (hbb.mono HB.out.size))
        have kb := Lib.hid (Lok.new Va 23 #[.int .i64 b1, .int .i64 b2, .int .i64 b3])
        clear hbb
        generalize Va.alloc (.cells #[.int .i64 b1, .int .i64 b2, .int .i64 b3] 23) = Vb at *
        rw [za] at kb zb
        have hbt := below_new1 Vb (.cells #[.int .i64 p1, .int .i64 p2, .int .i64 p3, .int .i64 q1, .int .i64 q2, .int .i64 q3, .int .i64 r1, .int .i64 r2, .int .i64 r3] 43)
        replace ka := Lib.hid (ka.out.keep hbt)
        replace kb := Lib.hid (kb.out.keep hbt)
        have zt : (Vb.alloc (.cells #[.int .i64 p1, .int .i64 p2, .int .i64 p3, .int .i64 q1, .int .i64 q2, .int .i64 q3, .int .i64 r1, .int .i64 r2, .int .i64 r3] 43)).heap.size = Vb.heap.size + 1 := by simp
        replace HB := Lib.hid (HB.out.trans (hbt.mono HB.out.size))
        have kt := Lib.hid (Lok.new Vb 43 #[.int .i64 p1, .int .i64 p2, .int .i64 p3, .int .i64 q1, .int .i64 q2, .int .i64 q3, .int .i64 r1, .int .i64 r2, .int .i64 r3])
        clear hbt
        generalize Vb.alloc (.cells #[.int .i64 p1, .int .i64 p2, .int .i64 p3, .int .i64 q1, .int .i64 q2, .int .i64 q3, .int .i64 r1, .int .i64 r2, .int .i64 r3] 43) = Vt at *
        rw [zb] at kt
        clear za zb zt
        have a0 := ka.out.cell (i := 0) rfl
        have a1 := ka.out.cell (i := 1) rfl
        have a2 := ka.out.cell (i := 2) rfl
        have t0 := kt.out.cell (i := 0) rfl
        have t1 := kt.out.cell (i := 1) rfl
        have t2 := kt.out.cell (i := 2) rfl
        have t3 := kt.out.cell (i := 3) rfl
        have t4 := kt.out.cell (i := 4) rfl
        have t5 := kt.out.cell (i := 5) rfl
        have t6 := kt.out.cell (i := 6) rfl
        have t7 := kt.out.cell (i := 7) rfl
        have t8 := kt.out.cell (i := 8) rfl
        go_wp2_with fail
        clear a0 a1 a2 t0 t1 t2 t3 t4 t5 t6 t7 t8
        (((with_reducible refine (SA.out _).mono ?_); rintro e w1 ⟨rfl, hb1⟩); replace HB := Lib.hid (HB.out.trans (hb1.mono HB.out.size)); replace ka := Lib.hid (ka.out.keep hb1); replace kb := Lib.hid (kb.out.keep hb1); replace kt := Lib.hid (kt.out.keep hb1); clear hb1)
        have b0 := kb.out.cell (i := 0) rfl
        have b1 := kb.out.cell (i := 1) rfl
        have b2 := kb.out.cell (i := 2) rfl
        have t0 := kt.out.cell (i := 0) rfl
        have t1 := kt.out.cell (i := 1) rfl
        have t2 := kt.out.cell (i := 2) rfl
        have t3 := kt.out.cell (i := 3) rfl
        have t4 := kt.out.cell (i := 4) rfl
        have t5 := kt.out.cell (i := 5) rfl
        have t6 := kt.out.cell (i := 6) rfl
        have t7 := kt.out.cell (i := 7) rfl
        have t8 := kt.out.cell (i := 8) rfl
        go_wp2_with fail
        clear b0 b1 b2 t0 t1 t2 t3 t4 t5 t6 t7 t8
        (((with_reducible refine (SB.out _).mono ?_); rintro e w2 ⟨rfl, hb2⟩); replace HB := Lib.hid (HB.out.trans (hb2.mono HB.out.size)); replace ka := Lib.hid (ka.out.keep hb2); replace kb := Lib.hid (kb.out.keep hb2); replace kt := Lib.hid (kt.out.keep hb2); clear hb2)
        have t0 := kt.out.cell (i := 0) rfl
        have t1 := kt.out.cell (i := 1) rfl
        have t2 := kt.out.cell (i := 2) rfl
        have t3 := kt.out.cell (i := 3) rfl
        have t4 := kt.out.cell (i := 4) rfl
        have t5 := kt.out.cell (i := 5) rfl
        have t6 := kt.out.cell (i := 6) rfl
        have t7 := kt.out.cell (i := 7) rfl
        have t8 := kt.out.cell (i := 8) rfl
        go_wp2_with fail
        clear t0 t1 t2 t3 t4 t5 t6 t7 t8
        (((with_reducible refine (O.out _ _ _ ka.out kb.out).mono ?_); rintro e w3 ⟨rfl, hb3⟩); replace HB := Lib.hid (HB.out.trans (hb3.mono HB.out.size)); replace ka := Lib.hid (ka.out.keep hb3); replace kb := Lib.hid (kb.out.keep hb3); replace kt := Lib.hid (kt.out.keep hb3); clear hb3)
        go_wp2
        go_ret2
        exact ⟨rfl, HB.out⟩
      · rw [show ((mn == -1) && z) = false from by rw [beq_no (show ¬ mn = -1 by omega), Bool.false_and]]
        clear i3 O
        go_enter Try.func21, Try.ntmps21
        go_upto_region 1 with fail
        have hba := below_new1 w (.cells #[.int .i64 a1, .int .i64 a2, .int .i64 a3] 23)
        have za : (w.alloc (.cells #[.int .i64 a1, .int .i64 a2, .int .i64 a3] 23)).heap.size = w.heap.size + 1 := by simp
        have HB := Lib.hid hba
        have ka := Lib.hid (Lok.new w 23 #[.int .i64 a1, .int .i64 a2, .int .i64 a3])
        clear hba
        generalize w.alloc (.cells #[.int .i64 a1, .int .i64 a2, .int .i64 a3] 23) = Va at *
        have hbb := below_new1 Va (.cells #[.int .i64 b1, .int .i64 b2, .int .i64 b3] 23)
        replace ka := Lib.hid (ka.out.keep hbb)
        have zb : (Va.alloc (.cells #[.int .i64 b1, .int .i64 b2, .int .i64 b3] 23)).heap.size = Va.heap.size + 1 := by simp
        replace HB := Lib.hid (HB.out.trans (hbb.mono HB.out.size))
        have kb := Lib.hid (Lok.new Va 23 #[.int .i64 b1, .int .i64 b2, .int .i64 b3])
        clear hbb
        generalize Va.alloc (.cells #[.int .i64 b1, .int .i64 b2, .int .i64 b3] 23) = Vb at *
        rw [za] at kb zb
        have hbt := below_new1 Vb (.cells #[.int .i64 p1, .int .i64 p2, .int .i64 p3, .int .i64 q1, .int .i64 q2, .int .i64 q3, .int .i64 r1, .int .i64 r2, .int .i64 r3] 43)
        replace ka := Lib.hid (ka.out.keep hbt)
        replace kb := Lib.hid (kb.out.keep hbt)
        have zt : (Vb.alloc (.cells #[.int .i64 p1, .int .i64 p2, .int .i64 p3, .int .i64 q1, .int .i64 q2, .int .i64 q3, .int .i64 r1, .int .i64 r2, .int .i64 r3] 43)).heap.size = Vb.heap.size + 1 := by simp
        replace HB := Lib.hid (HB.out.trans (hbt.mono HB.out.size))
        have kt := Lib.hid (Lok.new Vb 43 #[.int .i64 p1, .int .i64 p2, .int .i64 p3, .int .i64 q1, .int .i64 q2, .int .i64 q3, .int .i64 r1, .int .i64 r2, .int .i64 r3])
        clear hbt
        generalize Vb.alloc (.cells #[.int .i64 p1, .int .i64 p2, .int .i64 p3, .int .i64 q1, .int .i64 q2, .int .i64 q3, .int .i64 r1, .int .i64 r2, .int .i64 r3] 43) = Vt at *
        rw [zb] at kt
        clear za zb zt
        have a0 := ka.out.cell (i := 0) rfl
        have a1 := ka.out.cell (i := 1) rfl
        have a2 := ka.out.cell (i := 2) rfl
        have t0 := kt.out.cell (i := 0) rfl
        have t1 := kt.out.cell (i := 1) rfl
        have t2 := kt.out.cell (i := 2) rfl
        have t3 := kt.out.cell (i := 3) rfl
        have t4 := kt.out.cell (i := 4) rfl
        have t5 := kt.out.cell (i := 5) rfl
        have t6 := kt.out.cell (i := 6) rfl
        have t7 := kt.out.cell (i := 7) rfl
        have t8 := kt.out.cell (i := 8) rfl
        go_wp2_with fail
        clear a0 a1 a2 t0 t1 t2 t3 t4 t5 t6 t7 t8
        (((with_reducible refine (SA.out _).mono ?_); rintro e w1 ⟨rfl, hb1⟩); replace HB := Lib.hid (HB.out.trans (hb1.mono HB.out.size)); replace ka := Lib.hid (ka.out.keep hb1); replace kb := Lib.hid (kb.out.keep hb1); replace kt := Lib.hid (kt.out.keep hb1); clear hb1)
        have b0 := kb.out.cell (i := 0) rfl
        have b1 := kb.out.cell (i := 1) rfl
        have b2 := kb.out.cell (i := 2) rfl
        have t0 := kt.out.cell (i := 0) rfl
        have t1 := kt.out.cell (i := 1) rfl
        have t2 := kt.out.cell (i := 2) rfl
        have t3 := kt.out.cell (i := 3) rfl
        have t4 := kt.out.cell (i := 4) rfl
        have t5 := kt.out.cell (i := 5) rfl
        have t6 := kt.out.cell (i := 6) rfl
        have t7 := kt.out.cell (i := 7) rfl
        have t8 := kt.out.cell (i := 8) rfl
        go_wp2_with fail
        clear b0 b1 b2 t0 t1 t2 t3 t4 t5 t6 t7 t8
        (((with_reducible refine (SB.out _).mono ?_); rintro e w2 ⟨rfl, hb2⟩); replace HB := Lib.hid (HB.out.trans (hb2.mono HB.out.size)); replace ka := Lib.hid (ka.out.keep hb2); replace kb := Lib.hid (kb.out.keep hb2); replace kt := Lib.hid (kt.out.keep hb2); clear hb2)
        go_wp2
        go_ret2
        exact ⟨rfl, HB.out⟩
end Go.Proofs.Ytfghjfgdjlkooaa
