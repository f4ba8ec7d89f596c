/-
  The law HitDoes, walked. (gen/HtX.py)
-/
import Derived.Test.YthjjaojimefbeaaHtK
import Derived.Test.YthjjaojimefbeaaHtI
import Derived.Test.YthjjaojimefbeaaHtE
namespace Go.Proofs.Ythjjaojimefbeaa
open Go.RowKit

set_option maxRecDepth 100000 in
set_option maxHeartbeats 4000000 in
theorem law_does_long (a1 a2 a3 b1 b2 b3 p1 p2 p3 q1 q2 q3 r1 r2 r3 : Int) (A : Option Addr) (n c : Nat) (w : World) (hn : 30 < n) (hl : n ≤ 9223372036854775807) :
    Calls Try.prog 3 #[.agg #[.int .i64 a1, .int .i64 a2, .int .i64 a3], .agg #[.int .i64 b1, .int .i64 b2, .int .i64 b3], .agg #[.int .i64 p1, .int .i64 p2, .int .i64 p3, .int .i64 q1, .int .i64 q2, .int .i64 q3, .int .i64 r1, .int .i64 r2, .int .i64 r3], .slice A n c] w fun e' w' => e' = .returned (.bool true) ∧ Below w.heap.size w w' := by
  have HB := Lib.hid (Below.refl w.heap.size w)
  have d1 : decide (30 < (n : Int)) = true := decide_eq_true (by omega)
  go_enter Try.func3, Try.ntmps3
  go_upto_region 1 with fail
  have hba := below_new1 w (.cells #[.int .i64 a1, .int .i64 a2, .int .i64 a3] 23)
  have za : (w.alloc (.cells #[.int .i64 a1, .int .i64 a2, .int .i64 a3] 23)).heap.size = w.heap.size + 1 := by simp
  have HB := Lib.hid hba
  have ka := Lib.hid (Lok.new w 23 #[.int .i64 a1, .int .i64 a2, .int .i64 a3])
  clear hba
  generalize w.alloc (.cells #[.int .i64 a1, .int .i64 a2, .int .i64 a3] 23) = Va at *
  have hbb := below_new1 Va (.cells #[.int .i64 b1, .int .i64 b2, .int .i64 b3] 23)
  replace ka := Lib.hid (ka.out.keep hbb)
  have zb : (Va.alloc (.cells #[.int .i64 b1, .int .i64 b2, .int .i64 b3] 23)).heap.size = Va.heap.size + 1 := by simp
  replace HB := Lib.hid (HB.out.trans (hbb.mono HB.out.size))
  have kb := Lib.hid (Lok.new Va 23 #[.int .i64 b1, .int .i64 b2, .int .i64 b3])
  clear hbb
  generalize Va.alloc (.cells #[.int .i64 b1, .int .i64 b2, .int .i64 b3] 23) = Vb at *
  rw [za] at kb zb
  have hbt := below_new1 Vb (.cells #[.int .i64 p1, .int .i64 p2, .int .i64 p3, .int .i64 q1, .int .i64 q2, .int .i64 q3, .int .i64 r1, .int .i64 r2, .int .i64 r3] 24)
  replace ka := Lib.hid (ka.out.keep hbt)
  replace kb := Lib.hid (kb.out.keep hbt)
  have zt : (Vb.alloc (.cells #[.int .i64 p1, .int .i64 p2, .int .i64 p3, .int .i64 q1, .int .i64 q2, .int .i64 q3, .int .i64 r1, .int .i64 r2, .int .i64 r3] 24)).heap.size = Vb.heap.size + 1 := by simp
  replace HB := Lib.hid (HB.out.trans (hbt.mono HB.out.size))
  have kt := Lib.hid (Lok.new Vb 24 #[.int .i64 p1, .int .i64 p2, .int .i64 p3, .int .i64 q1, .int .i64 q2, .int .i64 q3, .int .i64 r1, .int .i64 r2, .int .i64 r3])
  clear hbt
  generalize Vb.alloc (.cells #[.int .i64 p1, .int .i64 p2, .int .i64 p3, .int .i64 q1, .int .i64 q2, .int .i64 q3, .int .i64 r1, .int .i64 r2, .int .i64 r3] 24) = Vt at *
  rw [zb] at kt
  clear za zb zt
  clear ka kb kt
  go_wp2
  go_ret
  exact ⟨rfl, HB.out⟩
set_option maxRecDepth 100000 in
set_option maxHeartbeats 16000000 in
theorem law_does_short (a1 a2 a3 b1 b2 b3 p1 p2 p3 q1 q2 q3 r1 r2 r3 : Int) (A : Option Addr) (n c : Nat) (F : Nat → Nat → Int) (w : World) (hA : A = none → n = 0 ∧ c = 0) (hr : RowK w A n 9 F) (hn : n ≤ 30) :
    Calls Try.prog 3 #[.agg #[.int .i64 a1, .int .i64 a2, .int .i64 a3], .agg #[.int .i64 b1, .int .i64 b2, .int .i64 b3], .agg #[.int .i64 p1, .int .i64 p2, .int .i64 p3, .int .i64 q1, .int .i64 q2, .int .i64 q3, .int .i64 r1, .int .i64 r2, .int .i64 r3], .slice A n c] w fun e' w' => e' = .returned (.bool true) ∧ Below w.heap.size w w' := by
  have HB := Lib.hid (Below.refl w.heap.size w)
  have d1 : decide (30 < (n : Int)) = false := decide_eq_false (by omega)
  obtain ⟨t, ht⟩ : ∃ v, (s3 a1 a2 a3 && s3 b1 b2 b3 && s3 p1 p2 p3 && s3 q1 q2 q3 && s3 r1 r2 r3) = v := ⟨_, rfl⟩
  obtain ⟨u, hu⟩ : ∃ v, (s3 p1 p2 p3 && s3 q1 q2 q3 && s3 r1 r2 r3 && s3 a1 a2 a3) = v := ⟨_, rfl⟩
  have O1 := Lib.hid (fun W hr => rown_any A n c F W hA hr (by omega))
  have C1 := Lib.hid (fun W => hit_any a1 a2 a3 b1 b2 b3 p1 p2 p3 q1 q2 q3 r1 r2 r3 t ht W)
  have C2 := Lib.hid (fun W => rhit_any a1 a2 a3 b1 b2 b3 p1 p2 p3 q1 q2 q3 r1 r2 r3 t ht W)
  have C3 := Lib.hid (fun W => side_any a1 a2 a3 p1 p2 p3 q1 q2 q3 r1 r2 r3 u hu W)
  have C4 := Lib.hid (fun W => rside12_any a1 a2 a3 p1 p2 p3 q1 q2 q3 r1 r2 r3 u hu W)
  have C5 := Lib.hid (fun W hr => first_any a1 a2 a3 b1 b2 b3 A n c F W hr (by omega))
  have C6 := Lib.hid (fun A' c' W hr => rfirst_any a1 a2 a3 b1 b2 b3 A' n c' F W hr (by omega))
  have S := Lib.hid (fun W => struck_any W)
  have C7 := Lib.hid (fun A' c' W ha hb => rsame_any A A' n c c' F W ha hb (by omega))
  have R := Lib.hid hr
  clear ht hu hA hr
  generalize hV t (htB a1 a2 a3 b1 b2 b3 p1 p2 p3 q1 q2 q3 r1 r2 r3) = x at *
  generalize rE t = e0 at *
  generalize rE u = e1 at *
  generalize ordI (vF u (vo p1 p2 p3 q1 q2 q3 r1 r2 r3 a1 a2 a3)) 0 = m at *
  generalize fiV (fiG (okF a1 a2 a3 b1 b2 b3 F) n) (fiP (htF a1 a2 a3 b1 b2 b3 F) n) = fi at *
  generalize (fiG (okF a1 a2 a3 b1 b2 b3 F) n && fiF (htF a1 a2 a3 b1 b2 b3 F) n) = ff at *
  generalize rE (fiG (okF a1 a2 a3 b1 b2 b3 F) n) = e2 at *
  go_enter Try.func3, Try.ntmps3
  go_upto_region 1 with fail
  have hba := below_new1 w (.cells #[.int .i64 a1, .int .i64 a2, .int .i64 a3] 23)
  have za : (w.alloc (.cells #[.int .i64 a1, .int .i64 a2, .int .i64 a3] 23)).heap.size = w.heap.size + 1 := by simp
  have HB := Lib.hid hba
  have ka := Lib.hid (Lok.new w 23 #[.int .i64 a1, .int .i64 a2, .int .i64 a3])
  clear hba
  generalize w.alloc (.cells #[.int .i64 a1, .int .i64 a2, .int .i64 a3] 23) = Va at *
  have hbb := below_new1 Va (.cells #[.int .i64 b1, .int .i64 b2, .int .i64 b3] 23)
  replace ka := Lib.hid (ka.out.keep hbb)
  have zb : (Va.alloc (.cells #[.int .i64 b1, .int .i64 b2, .int .i64 b3] 23)).heap.size = Va.heap.size + 1 := by simp
  replace HB := Lib.hid (HB.out.trans (hbb.mono HB.out.size))
  have kb := Lib.hid (Lok.new Va 23 #[.int .i64 b1, .int .i64 b2, .int .i64 b3])
  clear hbb
  generalize Va.alloc (.cells #[.int .i64 b1, .int .i64 b2, .int .i64 b3] 23) = Vb at *
  rw [za] at kb zb
  have hbt := below_new1 Vb (.cells #[.int .i64 p1, .int .i64 p2, .int .i64 p3, .int .i64 q1, .int .i64 q2, .int .i64 q3, .int .i64 r1, .int .i64 r2, .int .i64 r3] 24)
  replace ka := Lib.hid (ka.out.keep hbt)
  replace kb := Lib.hid (kb.out.keep hbt)
  have zt : (Vb.alloc (.cells #[.int .i64 p1, .int .i64 p2, .int .i64 p3, .int .i64 q1, .int .i64 q2, .int .i64 q3, .int .i64 r1, .int .i64 r2, .int .i64 r3] 24)).heap.size = Vb.heap.size + 1 := by simp
  replace HB := Lib.hid (HB.out.trans (hbt.mono HB.out.size))
  have kt := Lib.hid (Lok.new Vb 24 #[.int .i64 p1, .int .i64 p2, .int .i64 p3, .int .i64 q1, .int .i64 q2, .int .i64 q3, .int .i64 r1, .int .i64 r2, .int .i64 r3])
  clear hbt
  generalize Vb.alloc (.cells #[.int .i64 p1, .int .i64 p2, .int .i64 p3, .int .i64 q1, .int .i64 q2, .int .i64 q3, .int .i64 r1, .int .i64 r2, .int .i64 r3] 24) = Vt at *
  rw [zb] at kt
  clear za zb zt
  replace R := Lib.hid (R.out.keep HB.out)
  go_wp2_with fail
  ((with_reducible refine (O1.out _ R.out).mono ?_); rintro e w1 ⟨A1, c1, rfl, -, -, -, hb1, o4⟩)
  replace HB := Lib.hid (HB.out.trans (hb1.mono HB.out.size))
  replace ka := Lib.hid (ka.out.keep hb1)
  replace kb := Lib.hid (kb.out.keep hb1)
  replace kt := Lib.hid (kt.out.keep hb1)
  replace R := Lib.hid (R.out.keep hb1)
  have R1 := Lib.hid o4
  clear hb1 o4 O1
  have a0 := ka.out.cell (i := 0) rfl
  have a1 := ka.out.cell (i := 1) rfl
  have a2 := ka.out.cell (i := 2) rfl
  have b0 := kb.out.cell (i := 0) rfl
  have b1 := kb.out.cell (i := 1) rfl
  have b2 := kb.out.cell (i := 2) rfl
  have t0 := kt.out.cell (i := 0) rfl
  have t1 := kt.out.cell (i := 1) rfl
  have t2 := kt.out.cell (i := 2) rfl
  have t3 := kt.out.cell (i := 3) rfl
  have t4 := kt.out.cell (i := 4) rfl
  have t5 := kt.out.cell (i := 5) rfl
  have t6 := kt.out.cell (i := 6) rfl
  have t7 := kt.out.cell (i := 7) rfl
  have t8 := kt.out.cell (i := 8) rfl
  go_wp2_with fail
  clear a0 a1 a2 b0 b1 b2 t0 t1 t2 t3 t4 t5 t6 t7 t8
  (((with_reducible refine (C1.out _).mono ?_); rintro e w2 ⟨rfl, hb2⟩); replace HB := Lib.hid (HB.out.trans (hb2.mono HB.out.size)); replace ka := Lib.hid (ka.out.keep hb2); replace kb := Lib.hid (kb.out.keep hb2); replace kt := Lib.hid (kt.out.keep hb2); replace R := Lib.hid (R.out.keep hb2); replace R1 := Lib.hid (R1.out.keep hb2); clear hb2)
  have a0 := ka.out.cell (i := 0) rfl
  have a1 := ka.out.cell (i := 1) rfl
  have a2 := ka.out.cell (i := 2) rfl
  have b0 := kb.out.cell (i := 0) rfl
  have b1 := kb.out.cell (i := 1) rfl
  have b2 := kb.out.cell (i := 2) rfl
  have t0 := kt.out.cell (i := 0) rfl
  have t1 := kt.out.cell (i := 1) rfl
  have t2 := kt.out.cell (i := 2) rfl
  have t3 := kt.out.cell (i := 3) rfl
  have t4 := kt.out.cell (i := 4) rfl
  have t5 := kt.out.cell (i := 5) rfl
  have t6 := kt.out.cell (i := 6) rfl
  have t7 := kt.out.cell (i := 7) rfl
  have t8 := kt.out.cell (i := 8) rfl
  go_wp2_with fail
  clear a0 a1 a2 b0 b1 b2 t0 t1 t2 t3 t4 t5 t6 t7 t8
  (((with_reducible refine (C2.out _).mono ?_); rintro e w3 ⟨rfl, hb3⟩); replace HB := Lib.hid (HB.out.trans (hb3.mono HB.out.size)); replace ka := Lib.hid (ka.out.keep hb3); replace kb := Lib.hid (kb.out.keep hb3); replace kt := Lib.hid (kt.out.keep hb3); replace R := Lib.hid (R.out.keep hb3); replace R1 := Lib.hid (R1.out.keep hb3); clear hb3)
  have a0 := ka.out.cell (i := 0) rfl
  have a1 := ka.out.cell (i := 1) rfl
  have a2 := ka.out.cell (i := 2) rfl
  have t0 := kt.out.cell (i := 0) rfl
  have t1 := kt.out.cell (i := 1) rfl
  have t2 := kt.out.cell (i := 2) rfl
  have t3 := kt.out.cell (i := 3) rfl
  have t4 := kt.out.cell (i := 4) rfl
  have t5 := kt.out.cell (i := 5) rfl
  have t6 := kt.out.cell (i := 6) rfl
  have t7 := kt.out.cell (i := 7) rfl
  have t8 := kt.out.cell (i := 8) rfl
  go_wp2_with fail
  clear a0 a1 a2 t0 t1 t2 t3 t4 t5 t6 t7 t8
  (((with_reducible refine (C3.out _).mono ?_); rintro e w4 ⟨rfl, hb4⟩); replace HB := Lib.hid (HB.out.trans (hb4.mono HB.out.size)); replace ka := Lib.hid (ka.out.keep hb4); replace kb := Lib.hid (kb.out.keep hb4); replace kt := Lib.hid (kt.out.keep hb4); replace R := Lib.hid (R.out.keep hb4); replace R1 := Lib.hid (R1.out.keep hb4); clear hb4)
  have a0 := ka.out.cell (i := 0) rfl
  have a1 := ka.out.cell (i := 1) rfl
  have a2 := ka.out.cell (i := 2) rfl
  have t0 := kt.out.cell (i := 0) rfl
  have t1 := kt.out.cell (i := 1) rfl
  have t2 := kt.out.cell (i := 2) rfl
  have t3 := kt.out.cell (i := 3) rfl
  have t4 := kt.out.cell (i := 4) rfl
  have t5 := kt.out.cell (i := 5) rfl
  have t6 := kt.out.cell (i := 6) rfl
  have t7 := kt.out.cell (i := 7) rfl
  have t8 := kt.out.cell (i := 8) rfl
  go_wp2_with fail
  clear a0 a1 a2 t0 t1 t2 t3 t4 t5 t6 t7 t8
  (((with_reducible refine (C4.out _).mono ?_); rintro e w5 ⟨rfl, hb5⟩); replace HB := Lib.hid (HB.out.trans (hb5.mono HB.out.size)); replace ka := Lib.hid (ka.out.keep hb5); replace kb := Lib.hid (kb.out.keep hb5); replace kt := Lib.hid (kt.out.keep hb5); replace R := Lib.hid (R.out.keep hb5); replace R1 := Lib.hid (R1.out.keep hb5); clear hb5)
  clear C1 C2 C3 C4
  have a0 := ka.out.cell (i := 0) rfl
  have a1 := ka.out.cell (i := 1) rfl
  have a2 := ka.out.cell (i := 2) rfl
  have b0 := kb.out.cell (i := 0) rfl
  have b1 := kb.out.cell (i := 1) rfl
  have b2 := kb.out.cell (i := 2) rfl
  go_wp2_with fail
  clear a0 a1 a2 b0 b1 b2
  (((with_reducible refine (C5.out _ R.out).mono ?_); rintro e w6 ⟨rfl, hb6⟩); replace HB := Lib.hid (HB.out.trans (hb6.mono HB.out.size)); replace ka := Lib.hid (ka.out.keep hb6); replace kb := Lib.hid (kb.out.keep hb6); replace kt := Lib.hid (kt.out.keep hb6); replace R := Lib.hid (R.out.keep hb6); replace R1 := Lib.hid (R1.out.keep hb6); clear hb6)
  have a0 := ka.out.cell (i := 0) rfl
  have a1 := ka.out.cell (i := 1) rfl
  have a2 := ka.out.cell (i := 2) rfl
  have b0 := kb.out.cell (i := 0) rfl
  have b1 := kb.out.cell (i := 1) rfl
  have b2 := kb.out.cell (i := 2) rfl
  go_wp2_with fail
  clear a0 a1 a2 b0 b1 b2
  (((with_reducible refine (C6.out _ _ _ R1.out).mono ?_); rintro e w7 ⟨rfl, hb7⟩); replace HB := Lib.hid (HB.out.trans (hb7.mono HB.out.size)); replace ka := Lib.hid (ka.out.keep hb7); replace kb := Lib.hid (kb.out.keep hb7); replace kt := Lib.hid (kt.out.keep hb7); replace R := Lib.hid (R.out.keep hb7); replace R1 := Lib.hid (R1.out.keep hb7); clear hb7)
  clear ka kb kt C5 C6
  go_wp2_with fail
  (((with_reducible refine (S.out _).mono ?_); rintro e w8 ⟨rfl, hb8⟩); replace HB := Lib.hid (HB.out.trans (hb8.mono HB.out.size)); replace R := Lib.hid (R.out.keep hb8); replace R1 := Lib.hid (R1.out.keep hb8); clear hb8)
  go_wp2_with fail
  (((with_reducible refine (C7.out _ _ _ R.out R1.out).mono ?_); rintro e w9 ⟨rfl, hb9⟩); replace HB := Lib.hid (HB.out.trans (hb9.mono HB.out.size)); replace R := Lib.hid (R.out.keep hb9); replace R1 := Lib.hid (R1.out.keep hb9); clear hb9)
  clear C7 S R R1
  go_wp2
  go_ret
  exact ⟨rfl, HB.out⟩
theorem law_does (a1 a2 a3 b1 b2 b3 p1 p2 p3 q1 q2 q3 r1 r2 r3 : Int) (A : Option Addr) (n c : Nat) (F : Nat → Nat → Int) (w : World) (hA : A = none → n = 0 ∧ c = 0) (hr : RowK w A n 9 F) (hn : n ≤ 9223372036854775807) :
    Calls Try.prog 3 #[.agg #[.int .i64 a1, .int .i64 a2, .int .i64 a3], .agg #[.int .i64 b1, .int .i64 b2, .int .i64 b3], .agg #[.int .i64 p1, .int .i64 p2, .int .i64 p3, .int .i64 q1, .int .i64 q2, .int .i64 q3, .int .i64 r1, .int .i64 r2, .int .i64 r3], .slice A n c] w fun e' w' => e' = .returned (.bool true) ∧ Below w.heap.size w w' := by
  by_cases h : n ≤ 30
  · exact law_does_short a1 a2 a3 b1 b2 b3 p1 p2 p3 q1 q2 q3 r1 r2 r3 A n c F w hA hr h
  · exact law_does_long a1 a2 a3 b1 b2 b3 p1 p2 p3 q1 q2 q3 r1 r2 r3 A n c w (by omega) hn
end Go.Proofs.Ythjjaojimefbeaa
