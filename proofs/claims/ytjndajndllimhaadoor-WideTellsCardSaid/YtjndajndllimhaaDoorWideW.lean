/-
  The law WideTells: what both sides answer; its walk.
-/
import Derived.Test.YtjndajndllimhaaDoorRefZ
import Derived.Test.YtjndajndllimhaaDoorWideG
import Derived.Test.YtjndajndllimhaaDoorWideR
namespace Go.Proofs.YtjndajndllimhaaDoor
open Go.RowKit Go.BigFrame

def Past (V W : World) : Prop := Below V.heap.size V W
theorem Past.keep {V W W' : World} (h : Past V W) (hb : Below W.heap.size W W') : Past V W' := Below.trans h (hb.mono (Below.size h))
theorem div_two (hi lo n : Int) : ∃ h l r e : Int, (∀ W, Calls Tryd.prog 18 #[.agg #[.int .i64 hi, .int .i64 lo], .int .i64 n] W fun E w' => E = .returned (.tuple #[.agg #[.int .i64 h, .int .i64 l], .int .i64 r, .int .i64 e]) ∧ Below W.heap.size W w') ∧
    ∀ W, Calls Tryd.prog 19 #[.agg #[.int .i64 hi, .int .i64 lo], .int .i64 n] W fun E w' => E = .returned (.tuple #[.agg #[.int .i64 h, .int .i64 l], .int .i64 r, .int .i64 e]) ∧ Below W.heap.size W w' := by
  by_cases h : Rt hi lo
  · by_cases k : Dv n
    · exact ⟨_, _, _, 0, fun W => div_ok hi lo n W h k, fun W => rdiv_ok hi lo n W h k⟩
    · exact ⟨0, 0, 0, 1, fun W => div_no2 hi lo n W h k, fun W => rdiv_no hi lo n W fun q => k q.2⟩
  · exact ⟨0, 0, 0, 1, fun W => div_no1 hi lo n W h, fun W => rdiv_no hi lo n W fun q => h q.1⟩
theorem text_two (hi lo : Int) : ∃ s : ByteArray, (∀ W, Tab W → Calls Tryd.prog 22 #[.agg #[.int .i64 hi, .int .i64 lo]] W fun E w' => E = .returned (.string s) ∧ Below W.heap.size W w') ∧
    ∀ W, Calls Tryd.prog 23 #[.agg #[.int .i64 hi, .int .i64 lo]] W fun E w' => E = .returned (.string s) ∧ Below W.heap.size W w' := by
  by_cases h : Rt hi lo
  · refine ⟨_, fun W ht => ?_, fun W => rtext_ok hi lo W h⟩
    by_cases k : hi < 0
    · exact text_neg hi lo W h k ht
    · exact text_pos hi lo W h (by omega) ht
  · exact ⟨⟨#[]⟩, fun W _ => text_arg hi lo W h, fun W => rtext_arg hi lo W h⟩

set_option maxRecDepth 100000 in
set_option maxHeartbeats 8000000 in
theorem law_tells (ah al bh bl n : Int) (w : World) (ht : Tab w) :
    Calls Tryd.prog 4 #[.agg #[.int .i64 ah, .int .i64 al], .agg #[.int .i64 bh, .int .i64 bl], .int .i64 n] w fun e w' => e = .returned (.bool true) ∧ Below w.heap.size w w' := by
  have HT := Lib.hid ht
  obtain ⟨x, xe, x1, x2⟩ := int_two ah al
  obtain ⟨qh, ql, qr, qe, q1, q2⟩ := div_two ah al n
  obtain ⟨s, s1, s2⟩ := text_two ah al
  have X1 := Lib.hid x1
  have X2 := Lib.hid x2
  have Q1 := Lib.hid q1
  have Q2 := Lib.hid q2
  have S1 := Lib.hid s1
  have S2 := Lib.hid s2
  obtain ⟨c, C1, C2⟩ : ∃ c : Int, (∀ W, Calls Tryd.prog 20 #[.agg #[.int .i64 ah, .int .i64 al], .agg #[.int .i64 bh, .int .i64 bl]] W fun e w' => e = .returned (.int .i64 c) ∧ Below W.heap.size W w') ∧ ∀ W, Calls Tryd.prog 21 #[.agg #[.int .i64 ah, .int .i64 al], .agg #[.int .i64 bh, .int .i64 bl]] W fun e w' => e = .returned (.int .i64 c) ∧ Below W.heap.size W w' := ⟨_, fun W => cmp_any ah al bh bl W, fun W => rcmp_any ah al bh bl W⟩
  have D1 := Lib.hid C1
  have D2 := Lib.hid C2
  clear ht x1 x2 q1 q2 s1 s2 C1 C2
  go_enter Tryd.func4, Tryd.ntmps4
  go_upto_region 1 with fail
  have hb0 := below_new1 w (.cells #[.int .i64 ah, .int .i64 al] 24)
  have z0 : (w.alloc (.cells #[.int .i64 ah, .int .i64 al] 24)).heap.size = w.heap.size + 1 := by simp
  have HB := Lib.hid hb0
  have k0 := Lib.hid (Lok.new w 24 #[.int .i64 ah, .int .i64 al])
  clear hb0
  generalize w.alloc (.cells #[.int .i64 ah, .int .i64 al] 24) = V0 at *
  have hb1 := below_new1 V0 (.cells #[.int .i64 bh, .int .i64 bl] 24)
  replace k0 := Lib.hid (k0.out.keep hb1)
  have z1 : (V0.alloc (.cells #[.int .i64 bh, .int .i64 bl] 24)).heap.size = V0.heap.size + 1 := by simp
  replace HB := Lib.hid (HB.out.trans (hb1.mono HB.out.size))
  have k1 := Lib.hid (Lok.new V0 24 #[.int .i64 bh, .int .i64 bl])
  clear hb1
  generalize V0.alloc (.cells #[.int .i64 bh, .int .i64 bl] 24) = V1 at *
  rw [z0] at k1
  clear z0 z1
  have p0 := k0.out.cell (i := 0) rfl
  have p1 := k0.out.cell (i := 1) rfl
  go_wp2_with fail
  clear p0 p1
  (((with_reducible refine (X1.out _).mono ?_); rintro e w2 ⟨rfl, hb2⟩); replace HB := Lib.hid (HB.out.trans (hb2.mono HB.out.size)); replace k0 := Lib.hid (k0.out.keep hb2); replace k1 := Lib.hid (k1.out.keep hb2); clear hb2)
  have p0 := k0.out.cell (i := 0) rfl
  have p1 := k0.out.cell (i := 1) rfl
  go_wp2_with fail
  clear p0 p1
  (((with_reducible refine (X2.out _).mono ?_); rintro e w3 ⟨rfl, hb3⟩); replace HB := Lib.hid (HB.out.trans (hb3.mono HB.out.size)); replace k0 := Lib.hid (k0.out.keep hb3); replace k1 := Lib.hid (k1.out.keep hb3); clear hb3)
  have p0 := k0.out.cell (i := 0) rfl
  have p1 := k0.out.cell (i := 1) rfl
  go_wp2_with fail
  clear p0 p1
  ((with_reducible refine (Q1.out _).mono ?_); rintro e w4 ⟨rfl, hb4⟩)
  replace HB := Lib.hid (HB.out.trans (hb4.mono HB.out.size))
  replace k0 := Lib.hid (k0.out.keep hb4)
  replace k1 := Lib.hid (k1.out.keep hb4)
  clear hb4
  have p0 := keepa (o := .cells #[.int .i64 qh, .int .i64 ql] 24) (k0.out.cell (i := 0) rfl); have p1 := keepa (o := .cells #[.int .i64 qh, .int .i64 ql] 24) (k0.out.cell (i := 1) rfl)
  go_wp2_with fail
  clear p0 p1
  have hb4 := below_new1 w4 (.cells #[.int .i64 qh, .int .i64 ql] 24)
  replace HB := Lib.hid (HB.out.trans (hb4.mono HB.out.size))
  replace k0 := Lib.hid (k0.out.keep hb4)
  replace k1 := Lib.hid (k1.out.keep hb4)
  have k4 := Lib.hid (Lok.new w4 24 #[.int .i64 qh, .int .i64 ql])
  clear hb4
  generalize w4.alloc (.cells #[.int .i64 qh, .int .i64 ql] 24) = V4 at *
  generalize w4.heap.size = g4 at *
  ((with_reducible refine (Q2.out _).mono ?_); rintro e w5 ⟨rfl, hb5⟩)
  replace HB := Lib.hid (HB.out.trans (hb5.mono HB.out.size))
  replace k0 := Lib.hid (k0.out.keep hb5)
  replace k1 := Lib.hid (k1.out.keep hb5)
  replace k4 := Lib.hid (k4.out.keep hb5)
  clear hb5
  skip
  go_wp2_with fail
  skip
  have hb5 := below_new1 w5 (.cells #[.int .i64 qh, .int .i64 ql] 24)
  replace HB := Lib.hid (HB.out.trans (hb5.mono HB.out.size))
  replace k0 := Lib.hid (k0.out.keep hb5)
  replace k1 := Lib.hid (k1.out.keep hb5)
  replace k4 := Lib.hid (k4.out.keep hb5)
  have k5 := Lib.hid (Lok.new w5 24 #[.int .i64 qh, .int .i64 ql])
  clear hb5
  generalize w5.alloc (.cells #[.int .i64 qh, .int .i64 ql] 24) = V5 at *
  generalize w5.heap.size = g5 at *
  have st : Stays (Past V5) := fun W W' h hb => h.keep hb
  have ne : Nonempty (Of (Past V5)) := ⟨⟨V5, Below.refl _ _⟩⟩
  have a0 : ∀ d : Of (Past V5), d.world.cell? ⟨w.heap.size, 0, none⟩ = some (.int .i64 ah) := fun d => keepc d.holds (k0.out.cell (i := 0) rfl)
  have a1 : ∀ d : Of (Past V5), d.world.cell? ⟨w.heap.size, 1, none⟩ = some (.int .i64 al) := fun d => keepc d.holds (k0.out.cell (i := 1) rfl)
  have a2 : ∀ d : Of (Past V5), d.world.cell? ⟨w.heap.size + 1, 0, none⟩ = some (.int .i64 bh) := fun d => keepc d.holds (k1.out.cell (i := 0) rfl)
  have a3 : ∀ d : Of (Past V5), d.world.cell? ⟨w.heap.size + 1, 1, none⟩ = some (.int .i64 bl) := fun d => keepc d.holds (k1.out.cell (i := 1) rfl)
  have a4 : ∀ d : Of (Past V5), d.world.cell? ⟨g4, 0, none⟩ = some (.int .i64 qh) := fun d => keepc d.holds (k4.out.cell (i := 0) rfl)
  have a5 : ∀ d : Of (Past V5), d.world.cell? ⟨g4, 1, none⟩ = some (.int .i64 ql) := fun d => keepc d.holds (k4.out.cell (i := 1) rfl)
  have a6 : ∀ d : Of (Past V5), d.world.cell? ⟨g5, 0, none⟩ = some (.int .i64 qh) := fun d => keepc d.holds (k5.out.cell (i := 0) rfl)
  have a7 : ∀ d : Of (Past V5), d.world.cell? ⟨g5, 1, none⟩ = some (.int .i64 ql) := fun d => keepc d.holds (k5.out.cell (i := 1) rfl)
  have tab : ∀ d : Of (Past V5), Tab d.world := fun d => HT.out.below (HB.out.trans (Below.mono d.holds HB.out.size))
  have ST := Lib.hid st
  have TB := Lib.hid tab
  clear st tab
  refine wp_region_class (S := Past V5) (by kernel_rfl) (by kernel_rfl) (Below.refl _ _).drew ?_
  repeat (go_big_quiet_step (first
    | (go_at_call 13; exact class_call ST.out _ (widened_any _ (TB.out _)))
    | (go_at_call 20; exact class_call ST.out _ (D1.out _))
    | (go_at_call 21; exact class_call ST.out _ (D2.out _))
    | (go_at_call 22; exact class_call ST.out _ (S1.out _ (TB.out _)))
    | (go_at_call 23; exact class_call ST.out _ (S2.out _))))
  refine wpQuiet_nil ?_
  rintro _ ⟨d, rfl⟩
  have HD : Hid (Below w.heap.size w d.world) := Lib.hid (HB.out.trans (Below.mono d.holds HB.out.size))
  clear a0 a1 a2 a3 a4 a5 a6 a7 ne
  go_wp2
  go_ret
  exact ⟨rfl, HD.out⟩
end Go.Proofs.YtjndajndllimhaaDoor
