/-
  The reference limewashref12: Hit. (gen/HtH.py)
-/
import Derived.Test.YthjjaojimefbeaaHtF
namespace Go.Proofs.Ythjjaojimefbeaa
open Go.RowKit

/-- Behind k edges: how many pass below, and above. -/
def cB (n0 n1 n2 : Int) : Nat → Int
  | 0 => 0
  | k + 1 => cB n0 n1 n2 k + if pt n0 n1 n2 k < 0 then 1 else 0
def cA (n0 n1 n2 : Int) : Nat → Int
  | 0 => 0
  | k + 1 => cA n0 n1 n2 k + if 0 < pt n0 n1 n2 k then 1 else 0
theorem cB_bd (n0 n1 n2 : Int) : ∀ k, 0 ≤ cB n0 n1 n2 k ∧ cB n0 n1 n2 k ≤ k
  | 0 => ⟨Int.le_refl _, Int.le_refl _⟩
  | k + 1 => by have := cB_bd n0 n1 n2 k; show 0 ≤ cB n0 n1 n2 k + (if _ then _ else _) ∧ cB n0 n1 n2 k + (if _ then _ else _) ≤ _; split <;> omega
theorem cA_bd (n0 n1 n2 : Int) : ∀ k, 0 ≤ cA n0 n1 n2 k ∧ cA n0 n1 n2 k ≤ k
  | 0 => ⟨Int.le_refl _, Int.le_refl _⟩
  | k + 1 => by have := cA_bd n0 n1 n2 k; show 0 ≤ cA n0 n1 n2 k + (if _ then _ else _) ∧ cA n0 n1 n2 k + (if _ then _ else _) ≤ _; split <;> omega
theorem cB_zero (n0 n1 n2 : Int) : cB n0 n1 n2 3 = 0 ↔ 0 ≤ n0 ∧ 0 ≤ n1 ∧ 0 ≤ n2 := by
  show 0 + (if n0 < 0 then 1 else 0) + (if n1 < 0 then 1 else 0) + (if n2 < 0 then 1 else 0) = (0 : Int) ↔ _
  split <;> split <;> split <;> omega
theorem cA_zero (n0 n1 n2 : Int) : cA n0 n1 n2 3 = 0 ↔ n0 ≤ 0 ∧ n1 ≤ 0 ∧ n2 ≤ 0 := by
  show 0 + (if 0 < n0 then 1 else 0) + (if 0 < n1 then 1 else 0) + (if 0 < n2 then 1 else 0) = (0 : Int) ↔ _
  split <;> split <;> split <;> omega
theorem cBA (n0 n1 n2 : Int) : ((cB n0 n1 n2 3 == 0) || (cA n0 n1 n2 3 == 0)) = (decide (0 ≤ n0 ∧ 0 ≤ n1 ∧ 0 ≤ n2) || decide (n0 ≤ 0 ∧ n1 ≤ 0 ∧ n2 ≤ 0)) := by
  refine bool_same ?_
  rw [Bool.or_eq_true, Bool.or_eq_true, beq_iff_eq, beq_iff_eq, decide_eq_true_iff, decide_eq_true_iff, cB_zero, cA_zero]
set_option maxRecDepth 100000 in
set_option maxHeartbeats 16000000 in
theorem rhit_any (a1 a2 a3 b1 b2 b3 p1 p2 p3 q1 q2 q3 r1 r2 r3 : Int) (t : Bool) (ht : (s3 a1 a2 a3 && s3 b1 b2 b3 && s3 p1 p2 p3 && s3 q1 q2 q3 && s3 r1 r2 r3) = t) (w : World) :
    Calls Try.prog 10 #[.agg #[.int .i64 a1, .int .i64 a2, .int .i64 a3], .agg #[.int .i64 b1, .int .i64 b2, .int .i64 b3], .agg #[.int .i64 p1, .int .i64 p2, .int .i64 p3, .int .i64 q1, .int .i64 q2, .int .i64 q3, .int .i64 r1, .int .i64 r2, .int .i64 r3]] w fun e' w' => e' = .returned (.tuple #[.bool (hV t (htB a1 a2 a3 b1 b2 b3 p1 p2 p3 q1 q2 q3 r1 r2 r3)), .int .i64 (rE t)]) ∧ Below w.heap.size w w' := by
  have HB := Lib.hid (Below.refl w.heap.size w)
  have S := Lib.hid (fun g T W h => rsm2_any a1 a2 a3 b1 b2 b3 p1 p2 p3 q1 q2 q3 r1 r2 r3 t ht g T W h)
  cases t with
  | false =>
    rw [hV_no, show rE false = 5 from rfl]
    clear ht
    go_enter Try.func10, Try.ntmps10
    go_upto_region 1 with fail
    have hba := below_new1 w (.cells #[.int .i64 a1, .int .i64 a2, .int .i64 a3] 23)
    have za : (w.alloc (.cells #[.int .i64 a1, .int .i64 a2, .int .i64 a3] 23)).heap.size = w.heap.size + 1 := by simp
    have HB := Lib.hid hba
    have ka := Lib.hid (Lok.new w 23 #[.int .i64 a1, .int .i64 a2, .int .i64 a3])
    clear hba
    generalize w.alloc (.cells #[.int .i64 a1, .int .i64 a2, .int .i64 a3] 23) = Va at *
    have hbb := below_new1 Va (.cells #[.int .i64 b1, .int .i64 b2, .int .i64 b3] 23)
    replace ka := Lib.hid (ka.out.keep hbb)
    have zb : (Va.alloc (.cells #[.int .i64 b1, .int .i64 b2, .int .i64 b3] 23)).heap.size = Va.heap.size + 1 := by simp
    replace HB := Lib.hid (HB.out.trans (hbb.mono HB.out.size))
    have kb := Lib.hid (Lok.new Va 23 #[.int .i64 b1, .int .i64 b2, .int .i64 b3])
    clear hbb
    generalize Va.alloc (.cells #[.int .i64 b1, .int .i64 b2, .int .i64 b3] 23) = Vb at *
    rw [za] at kb zb
    have hbt := below_new1 Vb (.cells #[.int .i64 p1, .int .i64 p2, .int .i64 p3, .int .i64 q1, .int .i64 q2, .int .i64 q3, .int .i64 r1, .int .i64 r2, .int .i64 r3] 24)
    replace ka := Lib.hid (ka.out.keep hbt)
    replace kb := Lib.hid (kb.out.keep hbt)
    have zt : (Vb.alloc (.cells #[.int .i64 p1, .int .i64 p2, .int .i64 p3, .int .i64 q1, .int .i64 q2, .int .i64 q3, .int .i64 r1, .int .i64 r2, .int .i64 r3] 24)).heap.size = Vb.heap.size + 1 := by simp
    replace HB := Lib.hid (HB.out.trans (hbt.mono HB.out.size))
    have kt := Lib.hid (Lok.new Vb 24 #[.int .i64 p1, .int .i64 p2, .int .i64 p3, .int .i64 q1, .int .i64 q2, .int .i64 q3, .int .i64 r1, .int .i64 r2, .int .i64 r3])
    clear hbt
    generalize Vb.alloc (.cells #[.int .i64 p1, .int .i64 p2, .int .i64 p3, .int .i64 q1, .int .i64 q2, .int .i64 q3, .int .i64 r1, .int .i64 r2, .int .i64 r3] 24) = Vt at *
    rw [zb] at kt
    clear za zb zt
    have u0 := keepa (o := .cells #[.int .i64 a1, .int .i64 a2, .int .i64 a3, .int .i64 b1, .int .i64 b2, .int .i64 b3] 23) (kt.out.cell (i := 0) rfl)
    have u1 := keepa (o := .cells #[.int .i64 a1, .int .i64 a2, .int .i64 a3, .int .i64 b1, .int .i64 b2, .int .i64 b3] 23) (kt.out.cell (i := 1) rfl)
    have u2 := keepa (o := .cells #[.int .i64 a1, .int .i64 a2, .int .i64 a3, .int .i64 b1, .int .i64 b2, .int .i64 b3] 23) (kt.out.cell (i := 2) rfl)
    have u3 := keepa (o := .cells #[.int .i64 a1, .int .i64 a2, .int .i64 a3, .int .i64 b1, .int .i64 b2, .int .i64 b3] 23) (kt.out.cell (i := 3) rfl)
    have u4 := keepa (o := .cells #[.int .i64 a1, .int .i64 a2, .int .i64 a3, .int .i64 b1, .int .i64 b2, .int .i64 b3] 23) (kt.out.cell (i := 4) rfl)
    have u5 := keepa (o := .cells #[.int .i64 a1, .int .i64 a2, .int .i64 a3, .int .i64 b1, .int .i64 b2, .int .i64 b3] 23) (kt.out.cell (i := 5) rfl)
    have u6 := keepa (o := .cells #[.int .i64 a1, .int .i64 a2, .int .i64 a3, .int .i64 b1, .int .i64 b2, .int .i64 b3] 23) (kt.out.cell (i := 6) rfl)
    have u7 := keepa (o := .cells #[.int .i64 a1, .int .i64 a2, .int .i64 a3, .int .i64 b1, .int .i64 b2, .int .i64 b3] 23) (kt.out.cell (i := 7) rfl)
    have u8 := keepa (o := .cells #[.int .i64 a1, .int .i64 a2, .int .i64 a3, .int .i64 b1, .int .i64 b2, .int .i64 b3] 23) (kt.out.cell (i := 8) rfl)
    have a0 := ka.out.cell (i := 0) rfl
    have a1 := ka.out.cell (i := 1) rfl
    have a2 := ka.out.cell (i := 2) rfl
    have b0 := kb.out.cell (i := 0) rfl
    have b1 := kb.out.cell (i := 1) rfl
    have b2 := kb.out.cell (i := 2) rfl
    go_wp2_with fail
    clear a0 a1 a2 b0 b1 b2
    clear u0 u1 u2 u3 u4 u5 u6 u7 u8
    have hbr := below_new1 Vt (.cells #[.int .i64 a1, .int .i64 a2, .int .i64 a3, .int .i64 b1, .int .i64 b2, .int .i64 b3] 23)
    replace ka := Lib.hid (ka.out.keep hbr)
    replace kb := Lib.hid (kb.out.keep hbr)
    replace kt := Lib.hid (kt.out.keep hbr)
    have zr : (Vt.alloc (.cells #[.int .i64 a1, .int .i64 a2, .int .i64 a3, .int .i64 b1, .int .i64 b2, .int .i64 b3] 23)).heap.size = Vt.heap.size + 1 := by simp
    replace HB := Lib.hid (HB.out.trans (hbr.mono HB.out.size))
    have kr := Lib.hid (Lok.new Vt 23 #[.int .i64 a1, .int .i64 a2, .int .i64 a3, .int .i64 b1, .int .i64 b2, .int .i64 b3])
    clear hbr
    generalize Vt.alloc (.cells #[.int .i64 a1, .int .i64 a2, .int .i64 a3, .int .i64 b1, .int .i64 b2, .int .i64 b3] 23) = Vr at *
    clear zr
    generalize Vt.heap.size = gr at *
    (((with_reducible refine (S.out _ _ _ kr.out).mono ?_); rintro e w1 ⟨rfl, hb1⟩); replace HB := Lib.hid (HB.out.trans (hb1.mono HB.out.size)); replace ka := Lib.hid (ka.out.keep hb1); replace kb := Lib.hid (kb.out.keep hb1); replace kt := Lib.hid (kt.out.keep hb1); clear hb1)
    clear S kr
    go_wp2
    go_ret2
    exact ⟨rfl, HB.out⟩
  | true =>
    rw [hV_yes, show rE true = 0 from rfl]
    rw [Bool.and_eq_true, Bool.and_eq_true, Bool.and_eq_true, Bool.and_eq_true] at ht
    obtain ⟨⟨⟨⟨ha, hb⟩, hp⟩, hq⟩, hr⟩ := ht
    have SA := Lib.hid (fun W => rside12_any a1 a2 a3 p1 p2 p3 q1 q2 q3 r1 r2 r3 true (by rw [ha, hp, hq, hr]; rfl) W)
    have SB := Lib.hid (fun W => rside12_any b1 b2 b3 p1 p2 p3 q1 q2 q3 r1 r2 r3 true (by rw [hb, hp, hq, hr]; rfl) W)
    have C0 := Lib.hid (fun W => rvolume_any a1 a2 a3 b1 b2 b3 p1 p2 p3 q1 q2 q3 true (by rw [ha, hb, hp, hq]; rfl) W)
    have C1 := Lib.hid (fun W => rvolume_any a1 a2 a3 b1 b2 b3 q1 q2 q3 r1 r2 r3 true (by rw [ha, hb, hq, hr]; rfl) W)
    have C2 := Lib.hid (fun W => rvolume_any a1 a2 a3 b1 b2 b3 r1 r2 r3 p1 p2 p3 true (by rw [ha, hb, hr, hp]; rfl) W)
    rw [vF_yes, show rE true = 0 from rfl] at SA SB C0 C1 C2
    unfold htB hitP
    clear ha hb hp hq hr
    generalize vo a1 a2 a3 b1 b2 b3 p1 p2 p3 q1 q2 q3 = n0 at *
    generalize vo a1 a2 a3 b1 b2 b3 q1 q2 q3 r1 r2 r3 = n1 at *
    generalize vo a1 a2 a3 b1 b2 b3 r1 r2 r3 p1 p2 p3 = n2 at *
    rw [← cBA]
    obtain ⟨z, hz⟩ : ∃ z, ((cB n0 n1 n2 3 == 0) || (cA n0 n1 n2 3 == 0)) = z := ⟨_, rfl⟩
    rw [hz]
    replace hz := Lib.hid hz
    have i1 := so_bd (vo p1 p2 p3 q1 q2 q3 r1 r2 r3 a1 a2 a3)
    have i2 := so_bd (vo p1 p2 p3 q1 q2 q3 r1 r2 r3 b1 b2 b3)
    generalize ordI (vo p1 p2 p3 q1 q2 q3 r1 r2 r3 a1 a2 a3) 0 = m at *
    generalize ordI (vo p1 p2 p3 q1 q2 q3 r1 r2 r3 b1 b2 b3) 0 = n at *
    have i3 := so_mul i1 i2
    obtain ⟨mn, hmn⟩ : ∃ v, m * n = v := ⟨_, rfl⟩
    rw [hmn] at i3
    have wm : IntKind.i64.wrap (m * n) = mn := by rw [hmn]; exact IntWalk.i64_in _ (by omega)
    rw [hmn]
    clear i1 i2 hmn i3
    cases hneg : (mn == -1) with
    | false =>
      have hne : (mn != -1) = true := by unfold bne; rw [hneg]; rfl
      rw [Bool.false_and]
      clear C0 C1 C2 hz hneg
      go_enter Try.func10, Try.ntmps10
      go_upto_region 1 with fail
      have hba := below_new1 w (.cells #[.int .i64 a1, .int .i64 a2, .int .i64 a3] 23)
      have za : (w.alloc (.cells #[.int .i64 a1, .int .i64 a2, .int .i64 a3] 23)).heap.size = w.heap.size + 1 := by simp
      have HB := Lib.hid hba
      have ka := Lib.hid (Lok.new w 23 #[.int .i64 a1, .int .i64 a2, .int .i64 a3])
      clear hba
      generalize w.alloc (.cells #[.int .i64 a1, .int .i64 a2, .int .i64 a3] 23) = Va at *
      have hbb := below_new1 Va (.cells #[.int .i64 b1, .int .i64 b2, .int .i64 b3] 23)
      replace ka := Lib.hid (ka.out.keep hbb)
      have zb : (Va.alloc (.cells #[.int .i64 b1, .int .i64 b2, .int .i64 b3] 23)).heap.size = Va.heap.size + 1 := by simp
      replace HB := Lib.hid (HB.out.trans (hbb.mono HB.out.size))
      have kb := Lib.hid (Lok.new Va 23 #[.int .i64 b1, .int .i64 b2, .int .i64 b3])
      clear hbb
      generalize Va.alloc (.cells #[.int .i64 b1, .int .i64 b2, .int .i64 b3] 23) = Vb at *
      rw [za] at kb zb
      have hbt := below_new1 Vb (.cells #[.int .i64 p1, .int .i64 p2, .int .i64 p3, .int .i64 q1, .int .i64 q2, .int .i64 q3, .int .i64 r1, .int .i64 r2, .int .i64 r3] 24)
      replace ka := Lib.hid (ka.out.keep hbt)
      replace kb := Lib.hid (kb.out.keep hbt)
      have zt : (Vb.alloc (.cells #[.int .i64 p1, .int .i64 p2, .int .i64 p3, .int .i64 q1, .int .i64 q2, .int .i64 q3, .int .i64 r1, .int .i64 r2, .int .i64 r3] 24)).heap.size = Vb.heap.size + 1 := by simp
      replace HB := Lib.hid (HB.out.trans (hbt.mono HB.out.size))
      have kt := Lib.hid (Lok.new Vb 24 #[.int .i64 p1, .int .i64 p2, .int .i64 p3, .int .i64 q1, .int .i64 q2, .int .i64 q3, .int .i64 r1, .int .i64 r2, .int .i64 r3])
      clear hbt
      generalize Vb.alloc (.cells #[.int .i64 p1, .int .i64 p2, .int .i64 p3, .int .i64 q1, .int .i64 q2, .int .i64 q3, .int .i64 r1, .int .i64 r2, .int .i64 r3] 24) = Vt at *
      rw [zb] at kt
      clear za zb zt
      have u0 := keepa (o := .cells #[.int .i64 a1, .int .i64 a2, .int .i64 a3, .int .i64 b1, .int .i64 b2, .int .i64 b3] 23) (kt.out.cell (i := 0) rfl)
      have u1 := keepa (o := .cells #[.int .i64 a1, .int .i64 a2, .int .i64 a3, .int .i64 b1, .int .i64 b2, .int .i64 b3] 23) (kt.out.cell (i := 1) rfl)
      have u2 := keepa (o := .cells #[.int .i64 a1, .int .i64 a2, .int .i64 a3, .int .i64 b1, .int .i64 b2, .int .i64 b3] 23) (kt.out.cell (i := 2) rfl)
      have u3 := keepa (o := .cells #[.int .i64 a1, .int .i64 a2, .int .i64 a3, .int .i64 b1, .int .i64 b2, .int .i64 b3] 23) (kt.out.cell (i := 3) rfl)
      have u4 := keepa (o := .cells #[.int .i64 a1, .int .i64 a2, .int .i64 a3, .int .i64 b1, .int .i64 b2, .int .i64 b3] 23) (kt.out.cell (i := 4) rfl)
      have u5 := keepa (o := .cells #[.int .i64 a1, .int .i64 a2, .int .i64 a3, .int .i64 b1, .int .i64 b2, .int .i64 b3] 23) (kt.out.cell (i := 5) rfl)
      have u6 := keepa (o := .cells #[.int .i64 a1, .int .i64 a2, .int .i64 a3, .int .i64 b1, .int .i64 b2, .int .i64 b3] 23) (kt.out.cell (i := 6) rfl)
      have u7 := keepa (o := .cells #[.int .i64 a1, .int .i64 a2, .int .i64 a3, .int .i64 b1, .int .i64 b2, .int .i64 b3] 23) (kt.out.cell (i := 7) rfl)
      have u8 := keepa (o := .cells #[.int .i64 a1, .int .i64 a2, .int .i64 a3, .int .i64 b1, .int .i64 b2, .int .i64 b3] 23) (kt.out.cell (i := 8) rfl)
      have a0 := ka.out.cell (i := 0) rfl
      have a1 := ka.out.cell (i := 1) rfl
      have a2 := ka.out.cell (i := 2) rfl
      have b0 := kb.out.cell (i := 0) rfl
      have b1 := kb.out.cell (i := 1) rfl
      have b2 := kb.out.cell (i := 2) rfl
      go_wp2_with fail
      clear a0 a1 a2 b0 b1 b2
      clear u0 u1 u2 u3 u4 u5 u6 u7 u8
      have hbr := below_new1 Vt (.cells #[.int .i64 a1, .int .i64 a2, .int .i64 a3, .int .i64 b1, .int .i64 b2, .int .i64 b3] 23)
      replace ka := Lib.hid (ka.out.keep hbr)
      replace kb := Lib.hid (kb.out.keep hbr)
      replace kt := Lib.hid (kt.out.keep hbr)
      have zr : (Vt.alloc (.cells #[.int .i64 a1, .int .i64 a2, .int .i64 a3, .int .i64 b1, .int .i64 b2, .int .i64 b3] 23)).heap.size = Vt.heap.size + 1 := by simp
      replace HB := Lib.hid (HB.out.trans (hbr.mono HB.out.size))
      have kr := Lib.hid (Lok.new Vt 23 #[.int .i64 a1, .int .i64 a2, .int .i64 a3, .int .i64 b1, .int .i64 b2, .int .i64 b3])
      clear hbr
      generalize Vt.alloc (.cells #[.int .i64 a1, .int .i64 a2, .int .i64 a3, .int .i64 b1, .int .i64 b2, .int .i64 b3] 23) = Vr at *
      clear zr
      generalize Vt.heap.size = gr at *
      (((with_reducible refine (S.out _ _ _ kr.out).mono ?_); rintro e w1 ⟨rfl, hb1⟩); replace HB := Lib.hid (HB.out.trans (hb1.mono HB.out.size)); replace ka := Lib.hid (ka.out.keep hb1); replace kb := Lib.hid (kb.out.keep hb1); replace kt := Lib.hid (kt.out.keep hb1); clear hb1)
      clear S kr
      have a0 := ka.out.cell (i := 0) rfl
      have a1 := ka.out.cell (i := 1) rfl
      have a2 := ka.out.cell (i := 2) rfl
      have t0 := kt.out.cell (i := 0) rfl
      have t1 := kt.out.cell (i := 1) rfl
      have t2 := kt.out.cell (i := 2) rfl
      have t3 := kt.out.cell (i := 3) rfl
      have t4 := kt.out.cell (i := 4) rfl
      have t5 := kt.out.cell (i := 5) rfl
      have t6 := kt.out.cell (i := 6) rfl
      have t7 := kt.out.cell (i := 7) rfl
      have t8 := kt.out.cell (i := 8) rfl
      go_wp2_with fail
      clear a0 a1 a2 t0 t1 t2 t3 t4 t5 t6 t7 t8
      (((with_reducible refine (SA.out _).mono ?_); rintro e w2 ⟨rfl, hb2⟩); replace HB := Lib.hid (HB.out.trans (hb2.mono HB.out.size)); replace ka := Lib.hid (ka.out.keep hb2); replace kb := Lib.hid (kb.out.keep hb2); replace kt := Lib.hid (kt.out.keep hb2); clear hb2)
      have b0 := kb.out.cell (i := 0) rfl
      have b1 := kb.out.cell (i := 1) rfl
      have b2 := kb.out.cell (i := 2) rfl
      have t0 := kt.out.cell (i := 0) rfl
      have t1 := kt.out.cell (i := 1) rfl
      have t2 := kt.out.cell (i := 2) rfl
      have t3 := kt.out.cell (i := 3) rfl
      have t4 := kt.out.cell (i := 4) rfl
      have t5 := kt.out.cell (i := 5) rfl
      have t6 := kt.out.cell (i := 6) rfl
      have t7 := kt.out.cell (i := 7) rfl
      have t8 := kt.out.cell (i := 8) rfl
      go_wp2_with fail
      clear b0 b1 b2 t0 t1 t2 t3 t4 t5 t6 t7 t8
      (((with_reducible refine (SB.out _).mono ?_); rintro e w3 ⟨rfl, hb3⟩); replace HB := Lib.hid (HB.out.trans (hb3.mono HB.out.size)); replace ka := Lib.hid (ka.out.keep hb3); replace kb := Lib.hid (kb.out.keep hb3); replace kt := Lib.hid (kt.out.keep hb3); clear hb3)
      clear ka kb kt SA SB
      go_wp2
      go_ret2
      exact ⟨rfl, HB.out⟩
    | true =>
      obtain rfl : mn = -1 := beq_iff_eq.1 hneg
      rw [Bool.true_and]
      clear hneg
      go_enter Try.func10, Try.ntmps10
      go_upto_region 1 with fail
      have hba := below_new1 w (.cells #[.int .i64 a1, .int .i64 a2, .int .i64 a3] 23)
      have za : (w.alloc (.cells #[.int .i64 a1, .int .i64 a2, .int .i64 a3] 23)).heap.size = w.heap.size + 1 := by simp
      have HB := Lib.hid hba
      have ka := Lib.hid (Lok.new w 23 #[.int .i64 a1, .int .i64 a2, .int .i64 a3])
      clear hba
      generalize w.alloc (.cells #[.int .i64 a1, .int .i64 a2, .int .i64 a3] 23) = Va at *
      have hbb := below_new1 Va (.cells #[.int .i64 b1, .int .i64 b2, .int .i64 b3] 23)
      replace ka := Lib.hid (ka.out.keep hbb)
      have zb : (Va.alloc (.cells #[.int .i64 b1, .int .i64 b2, .int .i64 b3] 23)).heap.size = Va.heap.size + 1 := by simp
      replace HB := Lib.hid (HB.out.trans (hbb.mono HB.out.size))
      have kb := Lib.hid (Lok.new Va 23 #[.int .i64 b1, .int .i64 b2, .int .i64 b3])
      clear hbb
      generalize Va.alloc (.cells #[.int .i64 b1, .int .i64 b2, .int .i64 b3] 23) = Vb at *
      rw [za] at kb zb
      have hbt := below_new1 Vb (.cells #[.int .i64 p1, .int .i64 p2, .int .i64 p3, .int .i64 q1, .int .i64 q2, .int .i64 q3, .int .i64 r1, .int .i64 r2, .int .i64 r3] 24)
      replace ka := Lib.hid (ka.out.keep hbt)
      replace kb := Lib.hid (kb.out.keep hbt)
      have zt : (Vb.alloc (.cells #[.int .i64 p1, .int .i64 p2, .int .i64 p3, .int .i64 q1, .int .i64 q2, .int .i64 q3, .int .i64 r1, .int .i64 r2, .int .i64 r3] 24)).heap.size = Vb.heap.size + 1 := by simp
      replace HB := Lib.hid (HB.out.trans (hbt.mono HB.out.size))
      have kt := Lib.hid (Lok.new Vb 24 #[.int .i64 p1, .int .i64 p2, .int .i64 p3, .int .i64 q1, .int .i64 q2, .int .i64 q3, .int .i64 r1, .int .i64 r2, .int .i64 r3])
      clear hbt
      generalize Vb.alloc (.cells #[.int .i64 p1, .int .i64 p2, .int .i64 p3, .int .i64 q1, .int .i64 q2, .int .i64 q3, .int .i64 r1, .int .i64 r2, .int .i64 r3] 24) = Vt at *
      rw [zb] at kt
      clear za zb zt
      have u0 := keepa (o := .cells #[.int .i64 a1, .int .i64 a2, .int .i64 a3, .int .i64 b1, .int .i64 b2, .int .i64 b3] 23) (kt.out.cell (i := 0) rfl)
      have u1 := keepa (o := .cells #[.int .i64 a1, .int .i64 a2, .int .i64 a3, .int .i64 b1, .int .i64 b2, .int .i64 b3] 23) (kt.out.cell (i := 1) rfl)
      have u2 := keepa (o := .cells #[.int .i64 a1, .int .i64 a2, .int .i64 a3, .int .i64 b1, .int .i64 b2, .int .i64 b3] 23) (kt.out.cell (i := 2) rfl)
      have u3 := keepa (o := .cells #[.int .i64 a1, .int .i64 a2, .int .i64 a3, .int .i64 b1, .int .i64 b2, .int .i64 b3] 23) (kt.out.cell (i := 3) rfl)
      have u4 := keepa (o := .cells #[.int .i64 a1, .int .i64 a2, .int .i64 a3, .int .i64 b1, .int .i64 b2, .int .i64 b3] 23) (kt.out.cell (i := 4) rfl)
      have u5 := keepa (o := .cells #[.int .i64 a1, .int .i64 a2, .int .i64 a3, .int .i64 b1, .int .i64 b2, .int .i64 b3] 23) (kt.out.cell (i := 5) rfl)
      have u6 := keepa (o := .cells #[.int .i64 a1, .int .i64 a2, .int .i64 a3, .int .i64 b1, .int .i64 b2, .int .i64 b3] 23) (kt.out.cell (i := 6) rfl)
      have u7 := keepa (o := .cells #[.int .i64 a1, .int .i64 a2, .int .i64 a3, .int .i64 b1, .int .i64 b2, .int .i64 b3] 23) (kt.out.cell (i := 7) rfl)
      have u8 := keepa (o := .cells #[.int .i64 a1, .int .i64 a2, .int .i64 a3, .int .i64 b1, .int .i64 b2, .int .i64 b3] 23) (kt.out.cell (i := 8) rfl)
      have a0 := ka.out.cell (i := 0) rfl
      have a1 := ka.out.cell (i := 1) rfl
      have a2 := ka.out.cell (i := 2) rfl
      have b0 := kb.out.cell (i := 0) rfl
      have b1 := kb.out.cell (i := 1) rfl
      have b2 := kb.out.cell (i := 2) rfl
      go_wp2_with fail
      clear a0 a1 a2 b0 b1 b2
      clear u0 u1 u2 u3 u4 u5 u6 u7 u8
      have hbr := below_new1 Vt (.cells #[.int .i64 a1, .int .i64 a2, .int .i64 a3, .int .i64 b1, .int .i64 b2, .int .i64 b3] 23)
      replace ka := Lib.hid (ka.out.keep hbr)
      replace kb := Lib.hid (kb.out.keep hbr)
      replace kt := Lib.hid (kt.out.keep hbr)
      have zr : (Vt.alloc (.cells #[.int .i64 a1, .int .i64 a2, .int .i64 a3, .int .i64 b1, .int .i64 b2, .int .i64 b3] 23)).heap.size = Vt.heap.size + 1 := by simp
      replace HB := Lib.hid (HB.out.trans (hbr.mono HB.out.size))
      have kr := Lib.hid (Lok.new Vt 23 #[.int .i64 a1, .int .i64 a2, .int .i64 a3, .int .i64 b1, .int .i64 b2, .int .i64 b3])
      clear hbr
      generalize Vt.alloc (.cells #[.int .i64 a1, .int .i64 a2, .int .i64 a3, .int .i64 b1, .int .i64 b2, .int .i64 b3] 23) = Vr at *
      clear zr
      generalize Vt.heap.size = gr at *
      (((with_reducible refine (S.out _ _ _ kr.out).mono ?_); rintro e w1 ⟨rfl, hb1⟩); replace HB := Lib.hid (HB.out.trans (hb1.mono HB.out.size)); replace ka := Lib.hid (ka.out.keep hb1); replace kb := Lib.hid (kb.out.keep hb1); replace kt := Lib.hid (kt.out.keep hb1); clear hb1)
      clear S kr
      have a0 := ka.out.cell (i := 0) rfl
      have a1 := ka.out.cell (i := 1) rfl
      have a2 := ka.out.cell (i := 2) rfl
      have t0 := kt.out.cell (i := 0) rfl
      have t1 := kt.out.cell (i := 1) rfl
      have t2 := kt.out.cell (i := 2) rfl
      have t3 := kt.out.cell (i := 3) rfl
      have t4 := kt.out.cell (i := 4) rfl
      have t5 := kt.out.cell (i := 5) rfl
      have t6 := kt.out.cell (i := 6) rfl
      have t7 := kt.out.cell (i := 7) rfl
      have t8 := kt.out.cell (i := 8) rfl
      go_wp2_with fail
      clear a0 a1 a2 t0 t1 t2 t3 t4 t5 t6 t7 t8
      (((with_reducible refine (SA.out _).mono ?_); rintro e w2 ⟨rfl, hb2⟩); replace HB := Lib.hid (HB.out.trans (hb2.mono HB.out.size)); replace ka := Lib.hid (ka.out.keep hb2); replace kb := Lib.hid (kb.out.keep hb2); replace kt := Lib.hid (kt.out.keep hb2); clear hb2)
      have b0 := kb.out.cell (i := 0) rfl
      have b1 := kb.out.cell (i := 1) rfl
      have b2 := kb.out.cell (i := 2) rfl
      have t0 := kt.out.cell (i := 0) rfl
      have t1 := kt.out.cell (i := 1) rfl
      have t2 := kt.out.cell (i := 2) rfl
      have t3 := kt.out.cell (i := 3) rfl
      have t4 := kt.out.cell (i := 4) rfl
      have t5 := kt.out.cell (i := 5) rfl
      have t6 := kt.out.cell (i := 6) rfl
      have t7 := kt.out.cell (i := 7) rfl
      have t8 := kt.out.cell (i := 8) rfl
      go_wp2_with fail
      clear b0 b1 b2 t0 t1 t2 t3 t4 t5 t6 t7 t8
      (((with_reducible refine (SB.out _).mono ?_); rintro e w3 ⟨rfl, hb3⟩); replace HB := Lib.hid (HB.out.trans (hb3.mono HB.out.size)); replace ka := Lib.hid (ka.out.keep hb3); replace kb := Lib.hid (kb.out.keep hb3); replace kt := Lib.hid (kt.out.keep hb3); clear hb3)
      clear SA SB
      have HB0 := HB
      have ka0 := ka
      have kb0 := kb
      have kt0 := kt
      clear HB ka kb kt
      go_wp2_with fail
      go_loopw [12, 13, 14] (fun x y i wr => ∃ k : Nat, x = .int .i64 (cB n0 n1 n2 k) ∧ y = .int .i64 (cA n0 n1 n2 k) ∧ i = .int .i64 k ∧ k ≤ 3 ∧ Below w3.heap.size w3 wr) (fun _ _ i _ => 3 - (intOf i).toNat)
      case atStart => exact ⟨0, rfl, rfl, rfl, Nat.zero_le _, Below.refl _ _⟩
      case round =>
        obtain ⟨k, rfl, rfl, rfl, hk, hB⟩ := hrel
        have HB := Lib.hid (HB0.out.trans (hB.mono HB0.out.size))
        have ka := Lib.hid (ka0.out.keep hB)
        have kb := Lib.hid (kb0.out.keep hB)
        have kt := Lib.hid (kt0.out.keep hB)
        have B0 := Lib.hid hB
        clear hB
        rcases (show k = 0 ∨ k = 1 ∨ k = 2 ∨ k = 3 by omega) with rfl | rfl | rfl | rfl
        · go_upto_region 12 with fail
          have qa0 : ∀ D : Of (PastV wr), _ := fun D => (ka.out.keep (show Below wr.heap.size wr D.world from D.holds)).cell (i := 0) rfl
          have qa1 : ∀ D : Of (PastV wr), _ := fun D => (ka.out.keep (show Below wr.heap.size wr D.world from D.holds)).cell (i := 1) rfl
          have qa2 : ∀ D : Of (PastV wr), _ := fun D => (ka.out.keep (show Below wr.heap.size wr D.world from D.holds)).cell (i := 2) rfl
          have qb0 : ∀ D : Of (PastV wr), _ := fun D => (kb.out.keep (show Below wr.heap.size wr D.world from D.holds)).cell (i := 0) rfl
          have qb1 : ∀ D : Of (PastV wr), _ := fun D => (kb.out.keep (show Below wr.heap.size wr D.world from D.holds)).cell (i := 1) rfl
          have qb2 : ∀ D : Of (PastV wr), _ := fun D => (kb.out.keep (show Below wr.heap.size wr D.world from D.holds)).cell (i := 2) rfl
          have qt0 : ∀ D : Of (PastV wr), _ := fun D => (kt.out.keep (show Below wr.heap.size wr D.world from D.holds)).cell (i := 0) rfl
          have qt1 : ∀ D : Of (PastV wr), _ := fun D => (kt.out.keep (show Below wr.heap.size wr D.world from D.holds)).cell (i := 1) rfl
          have qt2 : ∀ D : Of (PastV wr), _ := fun D => (kt.out.keep (show Below wr.heap.size wr D.world from D.holds)).cell (i := 2) rfl
          have qt3 : ∀ D : Of (PastV wr), _ := fun D => (kt.out.keep (show Below wr.heap.size wr D.world from D.holds)).cell (i := 3) rfl
          have qt4 : ∀ D : Of (PastV wr), _ := fun D => (kt.out.keep (show Below wr.heap.size wr D.world from D.holds)).cell (i := 4) rfl
          have qt5 : ∀ D : Of (PastV wr), _ := fun D => (kt.out.keep (show Below wr.heap.size wr D.world from D.holds)).cell (i := 5) rfl
          have qt6 : ∀ D : Of (PastV wr), _ := fun D => (kt.out.keep (show Below wr.heap.size wr D.world from D.holds)).cell (i := 6) rfl
          have qt7 : ∀ D : Of (PastV wr), _ := fun D => (kt.out.keep (show Below wr.heap.size wr D.world from D.holds)).cell (i := 7) rfl
          have qt8 : ∀ D : Of (PastV wr), _ := fun D => (kt.out.keep (show Below wr.heap.size wr D.world from D.holds)).cell (i := 8) rfl
          have ST := Lib.hid (pastV_stays wr)
          have ne : Nonempty (Of (PastV wr)) := ⟨⟨wr, Below.refl _ _⟩⟩
          refine wp_region_class (S := PastV wr) (by kernel_rfl) (by kernel_rfl) (Below.refl _ _).drew ?_
          repeat (go_big_quiet_step (first | (go_at_call 23; first | (with_reducible exact class_call ST.out _ (C0.out _)))))
          refine wpQuiet_nil ?_
          rintro _ ⟨D, rfl⟩
          have hD : Below wr.heap.size wr D.world := D.holds
          have B2 := Lib.hid (B0.out.trans (hD.mono B0.out.size))
          replace HB := Lib.hid (HB.out.trans (hD.mono HB.out.size))
          replace ka := Lib.hid (ka.out.keep hD)
          replace kb := Lib.hid (kb.out.keep hD)
          replace kt := Lib.hid (kt.out.keep hD)
          generalize D.world = v1 at *
          clear qa0 qa1 qa2 qb0 qb1 qb2 qt0 qt1 qt2 qt3 qt4 qt5 qt6 qt7 qt8 ne ST hD
          clear ka kb kt B0
          have bu := cB_bd n0 n1 n2 0
          have bv := cA_bd n0 n1 n2 0
          have eu : cB n0 n1 n2 (0 + 1) = cB n0 n1 n2 0 + if n0 < 0 then 1 else 0 := rfl
          have ev : cA n0 n1 n2 (0 + 1) = cA n0 n1 n2 0 + if 0 < n0 then 1 else 0 := rfl
          generalize cB n0 n1 n2 0 = U at *
          generalize cA n0 n1 n2 0 = V at *
          have wu : IntKind.i64.wrap (U + 1) = U + 1 := IntWalk.i64_in _ (by omega)
          have wv : IntKind.i64.wrap (V + 1) = V + 1 := IntWalk.i64_in _ (by omega)
          clear bu bv
          rcases Int.lt_trichotomy n0 0 with h | h | h
          · rw [if_pos h] at eu
            rw [if_neg (by omega)] at ev
            have d1 : decide (n0 < 0) = true := decide_eq_true h
            have d2 : decide (0 < n0) = false := decide_eq_false (by omega)
            rw [Int.add_zero] at ev
            have EU := Lib.hid eu
            have EV := Lib.hid ev
            clear eu ev h
            go_wp2
            go_roundw
            case rel => exact ⟨1, by rw [EU.out], by rw [EV.out], by go_num, by omega, B2.out⟩
            case measure => simp [intOf]
          · rw [if_neg (by omega)] at eu
            rw [if_neg (by omega)] at ev
            have d1 : decide (n0 < 0) = false := decide_eq_false (by omega)
            have d2 : decide (0 < n0) = false := decide_eq_false (by omega)
            rw [Int.add_zero] at eu ev
            have EU := Lib.hid eu
            have EV := Lib.hid ev
            clear eu ev h
            go_wp2
            go_roundw
            case rel => exact ⟨1, by rw [EU.out], by rw [EV.out], by go_num, by omega, B2.out⟩
            case measure => simp [intOf]
          · rw [if_neg (by omega)] at eu
            rw [if_pos h] at ev
            have d1 : decide (n0 < 0) = false := decide_eq_false (by omega)
            have d2 : decide (0 < n0) = true := decide_eq_true h
            rw [Int.add_zero] at eu
            have EU := Lib.hid eu
            have EV := Lib.hid ev
            clear eu ev h
            go_wp2
            go_roundw
            case rel => exact ⟨1, by rw [EU.out], by rw [EV.out], by go_num, by omega, B2.out⟩
            case measure => simp [intOf]
        · go_upto_region 12 with fail
          have qa0 : ∀ D : Of (PastV wr), _ := fun D => (ka.out.keep (show Below wr.heap.size wr D.world from D.holds)).cell (i := 0) rfl
          have qa1 : ∀ D : Of (PastV wr), _ := fun D => (ka.out.keep (show Below wr.heap.size wr D.world from D.holds)).cell (i := 1) rfl
          have qa2 : ∀ D : Of (PastV wr), _ := fun D => (ka.out.keep (show Below wr.heap.size wr D.world from D.holds)).cell (i := 2) rfl
          have qb0 : ∀ D : Of (PastV wr), _ := fun D => (kb.out.keep (show Below wr.heap.size wr D.world from D.holds)).cell (i := 0) rfl
          have qb1 : ∀ D : Of (PastV wr), _ := fun D => (kb.out.keep (show Below wr.heap.size wr D.world from D.holds)).cell (i := 1) rfl
          have qb2 : ∀ D : Of (PastV wr), _ := fun D => (kb.out.keep (show Below wr.heap.size wr D.world from D.holds)).cell (i := 2) rfl
          have qt0 : ∀ D : Of (PastV wr), _ := fun D => (kt.out.keep (show Below wr.heap.size wr D.world from D.holds)).cell (i := 0) rfl
          have qt1 : ∀ D : Of (PastV wr), _ := fun D => (kt.out.keep (show Below wr.heap.size wr D.world from D.holds)).cell (i := 1) rfl
          have qt2 : ∀ D : Of (PastV wr), _ := fun D => (kt.out.keep (show Below wr.heap.size wr D.world from D.holds)).cell (i := 2) rfl
          have qt3 : ∀ D : Of (PastV wr), _ := fun D => (kt.out.keep (show Below wr.heap.size wr D.world from D.holds)).cell (i := 3) rfl
          have qt4 : ∀ D : Of (PastV wr), _ := fun D => (kt.out.keep (show Below wr.heap.size wr D.world from D.holds)).cell (i := 4) rfl
          have qt5 : ∀ D : Of (PastV wr), _ := fun D => (kt.out.keep (show Below wr.heap.size wr D.world from D.holds)).cell (i := 5) rfl
          have qt6 : ∀ D : Of (PastV wr), _ := fun D => (kt.out.keep (show Below wr.heap.size wr D.world from D.holds)).cell (i := 6) rfl
          have qt7 : ∀ D : Of (PastV wr), _ := fun D => (kt.out.keep (show Below wr.heap.size wr D.world from D.holds)).cell (i := 7) rfl
          have qt8 : ∀ D : Of (PastV wr), _ := fun D => (kt.out.keep (show Below wr.heap.size wr D.world from D.holds)).cell (i := 8) rfl
          have ST := Lib.hid (pastV_stays wr)
          have ne : Nonempty (Of (PastV wr)) := ⟨⟨wr, Below.refl _ _⟩⟩
          refine wp_region_class (S := PastV wr) (by kernel_rfl) (by kernel_rfl) (Below.refl _ _).drew ?_
          repeat (go_big_quiet_step (first | (go_at_call 23; first | (with_reducible exact class_call ST.out _ (C1.out _)))))
          refine wpQuiet_nil ?_
          rintro _ ⟨D, rfl⟩
          have hD : Below wr.heap.size wr D.world := D.holds
          have B2 := Lib.hid (B0.out.trans (hD.mono B0.out.size))
          replace HB := Lib.hid (HB.out.trans (hD.mono HB.out.size))
          replace ka := Lib.hid (ka.out.keep hD)
          replace kb := Lib.hid (kb.out.keep hD)
          replace kt := Lib.hid (kt.out.keep hD)
          generalize D.world = v1 at *
          clear qa0 qa1 qa2 qb0 qb1 qb2 qt0 qt1 qt2 qt3 qt4 qt5 qt6 qt7 qt8 ne ST hD
          clear ka kb kt B0
          have bu := cB_bd n0 n1 n2 1
          have bv := cA_bd n0 n1 n2 1
          have eu : cB n0 n1 n2 (1 + 1) = cB n0 n1 n2 1 + if n1 < 0 then 1 else 0 := rfl
          have ev : cA n0 n1 n2 (1 + 1) = cA n0 n1 n2 1 + if 0 < n1 then 1 else 0 := rfl
          generalize cB n0 n1 n2 1 = U at *
          generalize cA n0 n1 n2 1 = V at *
          have wu : IntKind.i64.wrap (U + 1) = U + 1 := IntWalk.i64_in _ (by omega)
          have wv : IntKind.i64.wrap (V + 1) = V + 1 := IntWalk.i64_in _ (by omega)
          clear bu bv
          rcases Int.lt_trichotomy n1 0 with h | h | h
          · rw [if_pos h] at eu
            rw [if_neg (by omega)] at ev
            have d1 : decide (n1 < 0) = true := decide_eq_true h
            have d2 : decide (0 < n1) = false := decide_eq_false (by omega)
            rw [Int.add_zero] at ev
            have EU := Lib.hid eu
            have EV := Lib.hid ev
            clear eu ev h
            go_wp2
            go_roundw
            case rel => exact ⟨2, by rw [EU.out], by rw [EV.out], by go_num, by omega, B2.out⟩
            case measure => simp [intOf]
          · rw [if_neg (by omega)] at eu
            rw [if_neg (by omega)] at ev
            have d1 : decide (n1 < 0) = false := decide_eq_false (by omega)
            have d2 : decide (0 < n1) = false := decide_eq_false (by omega)
            rw [Int.add_zero] at eu ev
            have EU := Lib.hid eu
            have EV := Lib.hid ev
            clear eu ev h
            go_wp2
            go_roundw
            case rel => exact ⟨2, by rw [EU.out], by rw [EV.out], by go_num, by omega, B2.out⟩
            case measure => simp [intOf]
          · rw [if_neg (by omega)] at eu
            rw [if_pos h] at ev
            have d1 : decide (n1 < 0) = false := decide_eq_false (by omega)
            have d2 : decide (0 < n1) = true := decide_eq_true h
            rw [Int.add_zero] at eu
            have EU := Lib.hid eu
            have EV := Lib.hid ev
            clear eu ev h
            go_wp2
            go_roundw
            case rel => exact ⟨2, by rw [EU.out], by rw [EV.out], by go_num, by omega, B2.out⟩
            case measure => simp [intOf]
        · go_upto_region 12 with fail
          have qa0 : ∀ D : Of (PastV wr), _ := fun D => (ka.out.keep (show Below wr.heap.size wr D.world from D.holds)).cell (i := 0) rfl
          have qa1 : ∀ D : Of (PastV wr), _ := fun D => (ka.out.keep (show Below wr.heap.size wr D.world from D.holds)).cell (i := 1) rfl
          have qa2 : ∀ D : Of (PastV wr), _ := fun D => (ka.out.keep (show Below wr.heap.size wr D.world from D.holds)).cell (i := 2) rfl
          have qb0 : ∀ D : Of (PastV wr), _ := fun D => (kb.out.keep (show Below wr.heap.size wr D.world from D.holds)).cell (i := 0) rfl
          have qb1 : ∀ D : Of (PastV wr), _ := fun D => (kb.out.keep (show Below wr.heap.size wr D.world from D.holds)).cell (i := 1) rfl
          have qb2 : ∀ D : Of (PastV wr), _ := fun D => (kb.out.keep (show Below wr.heap.size wr D.world from D.holds)).cell (i := 2) rfl
          have qt0 : ∀ D : Of (PastV wr), _ := fun D => (kt.out.keep (show Below wr.heap.size wr D.world from D.holds)).cell (i := 0) rfl
          have qt1 : ∀ D : Of (PastV wr), _ := fun D => (kt.out.keep (show Below wr.heap.size wr D.world from D.holds)).cell (i := 1) rfl
          have qt2 : ∀ D : Of (PastV wr), _ := fun D => (kt.out.keep (show Below wr.heap.size wr D.world from D.holds)).cell (i := 2) rfl
          have qt3 : ∀ D : Of (PastV wr), _ := fun D => (kt.out.keep (show Below wr.heap.size wr D.world from D.holds)).cell (i := 3) rfl
          have qt4 : ∀ D : Of (PastV wr), _ := fun D => (kt.out.keep (show Below wr.heap.size wr D.world from D.holds)).cell (i := 4) rfl
          have qt5 : ∀ D : Of (PastV wr), _ := fun D => (kt.out.keep (show Below wr.heap.size wr D.world from D.holds)).cell (i := 5) rfl
          have qt6 : ∀ D : Of (PastV wr), _ := fun D => (kt.out.keep (show Below wr.heap.size wr D.world from D.holds)).cell (i := 6) rfl
          have qt7 : ∀ D : Of (PastV wr), _ := fun D => (kt.out.keep (show Below wr.heap.size wr D.world from D.holds)).cell (i := 7) rfl
          have qt8 : ∀ D : Of (PastV wr), _ := fun D => (kt.out.keep (show Below wr.heap.size wr D.world from D.holds)).cell (i := 8) rfl
          have ST := Lib.hid (pastV_stays wr)
          have ne : Nonempty (Of (PastV wr)) := ⟨⟨wr, Below.refl _ _⟩⟩
          refine wp_region_class (S := PastV wr) (by kernel_rfl) (by kernel_rfl) (Below.refl _ _).drew ?_
          repeat (go_big_quiet_step (first | (go_at_call 23; first | (with_reducible exact class_call ST.out _ (C2.out _)))))
          refine wpQuiet_nil ?_
          rintro _ ⟨D, rfl⟩
          have hD : Below wr.heap.size wr D.world := D.holds
          have B2 := Lib.hid (B0.out.trans (hD.mono B0.out.size))
          replace HB := Lib.hid (HB.out.trans (hD.mono HB.out.size))
          replace ka := Lib.hid (ka.out.keep hD)
          replace kb := Lib.hid (kb.out.keep hD)
          replace kt := Lib.hid (kt.out.keep hD)
          generalize D.world = v1 at *
          clear qa0 qa1 qa2 qb0 qb1 qb2 qt0 qt1 qt2 qt3 qt4 qt5 qt6 qt7 qt8 ne ST hD
          clear ka kb kt B0
          have bu := cB_bd n0 n1 n2 2
          have bv := cA_bd n0 n1 n2 2
          have eu : cB n0 n1 n2 (2 + 1) = cB n0 n1 n2 2 + if n2 < 0 then 1 else 0 := rfl
          have ev : cA n0 n1 n2 (2 + 1) = cA n0 n1 n2 2 + if 0 < n2 then 1 else 0 := rfl
          generalize cB n0 n1 n2 2 = U at *
          generalize cA n0 n1 n2 2 = V at *
          have wu : IntKind.i64.wrap (U + 1) = U + 1 := IntWalk.i64_in _ (by omega)
          have wv : IntKind.i64.wrap (V + 1) = V + 1 := IntWalk.i64_in _ (by omega)
          clear bu bv
          rcases Int.lt_trichotomy n2 0 with h | h | h
          · rw [if_pos h] at eu
            rw [if_neg (by omega)] at ev
            have d1 : decide (n2 < 0) = true := decide_eq_true h
            have d2 : decide (0 < n2) = false := decide_eq_false (by omega)
            rw [Int.add_zero] at ev
            have EU := Lib.hid eu
            have EV := Lib.hid ev
            clear eu ev h
            go_wp2
            go_roundw
            case rel => exact ⟨3, by rw [EU.out], by rw [EV.out], by go_num, by omega, B2.out⟩
            case measure => simp [intOf]
          · rw [if_neg (by omega)] at eu
            rw [if_neg (by omega)] at ev
            have d1 : decide (n2 < 0) = false := decide_eq_false (by omega)
            have d2 : decide (0 < n2) = false := decide_eq_false (by omega)
            rw [Int.add_zero] at eu ev
            have EU := Lib.hid eu
            have EV := Lib.hid ev
            clear eu ev h
            go_wp2
            go_roundw
            case rel => exact ⟨3, by rw [EU.out], by rw [EV.out], by go_num, by omega, B2.out⟩
            case measure => simp [intOf]
          · rw [if_neg (by omega)] at eu
            rw [if_pos h] at ev
            have d1 : decide (n2 < 0) = false := decide_eq_false (by omega)
            have d2 : decide (0 < n2) = true := decide_eq_true h
            rw [Int.add_zero] at eu
            have EU := Lib.hid eu
            have EV := Lib.hid ev
            clear eu ev h
            go_wp2
            go_roundw
            case rel => exact ⟨3, by rw [EU.out], by rw [EV.out], by go_num, by omega, B2.out⟩
            case measure => simp [intOf]
        · have e := hz.out
          generalize cB n0 n1 n2 3 = l at *
          generalize cA n0 n1 n2 3 = g at *
          clear hz C0 C1 C2 ka kb kt B0
          by_cases h : l = 0
          · subst h
            obtain rfl : true = z := by rw [← e]; rfl
            clear e
            go_wp2
            go_ret2
            exact ⟨rfl, HB.out⟩
          · have e1 := beq_no h
            rw [e1, Bool.false_or] at e
            subst e
            go_wp2
            go_ret2
            exact ⟨rfl, HB.out⟩
end Go.Proofs.Ythjjaojimefbeaa
