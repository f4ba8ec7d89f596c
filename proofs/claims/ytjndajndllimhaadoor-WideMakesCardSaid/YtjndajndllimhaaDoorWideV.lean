/-
  The law WideMakes: its walk.
-/
import Derived.Test.YtjndajndllimhaaDoorWideU
import Derived.Test.YtjndajndllimhaaDoorAppK
namespace Go.Proofs.YtjndajndllimhaaDoor
open Go.RowKit Go.BigFrame

theorem infoW : (Tryd.prog.info? 24).map (fun i => (i.zero, i.size, i.bytes)) = some (some (.agg #[.int .i64 0, .int .i64 0]), 2, 16) := by kernel_rfl
theorem decI (n : Int) : decide ((n : Int) = n) = true := decide_eq_true rfl
theorem below_stays (w : World) : Stays (fun W => Below w.heap.size w W) := fun _ _ h hb => h.trans (hb.mono h.size)

def CellsW (b o : Nat) (p q : Int) (W : World) : Prop := W.cell? ⟨b, o, none⟩ = some (.int .i64 p) ∧ W.cell? ⟨b, o + 1, none⟩ = some (.int .i64 q)
theorem CellsW.keep {b o : Nat} {p q : Int} {W W' : World} (h : CellsW b o p q W) (hb : Below W.heap.size W W') : CellsW b o p q W' := ⟨keepc hb h.1, keepc hb h.2⟩
def Past (V W : World) : Prop := Below V.heap.size V W
theorem Past.keep {V W W' : World} (h : Past V W) (hb : Below W.heap.size W W') : Past V W' := Below.trans h (hb.mono (Below.size h))
set_option maxRecDepth 100000 in
set_option maxHeartbeats 8000000 in
theorem law_makes_short (x y : Int) (A : Option Addr) (n c : Nat) (F : Nat → Nat → Int) (w : World) (ht : Tab w) (ix : -9223372036854775808 ≤ x ∧ x ≤ 9223372036854775807) (hA : A = none → n = 0 ∧ c = 0) (hr : RowK w A n 2 F) (hn : n ≤ 30) :
    Calls Tryd.prog 3 #[.int .i64 x, .int .i64 y, .slice A n c] w fun e w' => e = .returned (.bool true) ∧ Below w.heap.size w w' := by
  obtain ⟨i0, hi, hz0, hz1, hz2⟩ := info_parts infoW
  have HT := Lib.hid ht
  have HR := Lib.hid hr
  have HA := Lib.hid hA
  obtain ⟨mh, ml, me, m1, m2⟩ := mul_two x y
  have M1 := Lib.hid m1
  have M2 := Lib.hid m2
  obtain ⟨sh, sl, se, s1, s2⟩ := add_two n F (by omega)
  have S1 := Lib.hid s1
  have S2 := Lib.hid s2
  clear ht hr hA m1 m2 s1 s2
  go_enter Tryd.func3, Tryd.ntmps3
  go_wp2_with (first
    | (at_builtin; refine wpList_append_rowk rfl _ _ 22 rfl w.heap.size 24 i0 _ 2 16 Tryd.underlying22 hi hz0 hz1 hz2 rfl (by decide) A n c F rfl rfl HA.out HR.out ?c3 ?c4 (Nat.le_refl _) ?_))
  case c3 => unfold maxLen; omega
  case c4 => omega
  intro A' c' w1 hA' _ _ hr' hb1
  have HO := Lib.hid hr'
  have HB := Lib.hid hb1
  clear hA' hr' hb1
  go_wp2_with fail
  ((with_reducible refine (M1.out _).mono ?_); rintro e w2 ⟨rfl, hb2⟩)
  replace HB := Lib.hid (HB.out.trans (hb2.mono HB.out.size))
  replace HO := Lib.hid (HO.out.keep hb2)
  clear hb2
  go_wp2_with fail
  have hb2 := below_new1 w2 (.cells #[.int .i64 mh, .int .i64 ml] 24)
  replace HB := Lib.hid (HB.out.trans (hb2.mono HB.out.size))
  replace HO := Lib.hid (HO.out.keep hb2)
  have k2 := Lib.hid (Lok.new w2 24 #[.int .i64 mh, .int .i64 ml])
  clear hb2
  generalize w2.alloc (.cells #[.int .i64 mh, .int .i64 ml] 24) = V2 at *
  generalize w2.heap.size = g2 at *
  go_wp2_with fail
  ((with_reducible refine (M2.out _).mono ?_); rintro e w3 ⟨rfl, hb3⟩)
  replace HB := Lib.hid (HB.out.trans (hb3.mono HB.out.size))
  replace HO := Lib.hid (HO.out.keep hb3)
  replace k2 := Lib.hid (k2.out.keep hb3)
  clear hb3
  go_wp2_with fail
  have hb3 := below_new1 w3 (.cells #[.int .i64 mh, .int .i64 ml] 24)
  replace HB := Lib.hid (HB.out.trans (hb3.mono HB.out.size))
  replace HO := Lib.hid (HO.out.keep hb3)
  replace k2 := Lib.hid (k2.out.keep hb3)
  have k3 := Lib.hid (Lok.new w3 24 #[.int .i64 mh, .int .i64 ml])
  clear hb3
  generalize w3.alloc (.cells #[.int .i64 mh, .int .i64 ml] 24) = V3 at *
  generalize w3.heap.size = g3 at *
  go_wp2_with fail
  ((with_reducible refine (S1.out _ _ _ (HR.out.keep HB.out)).mono ?_); rintro e w4 ⟨rfl, hb4⟩)
  replace HB := Lib.hid (HB.out.trans (hb4.mono HB.out.size))
  replace HO := Lib.hid (HO.out.keep hb4)
  replace k2 := Lib.hid (k2.out.keep hb4)
  replace k3 := Lib.hid (k3.out.keep hb4)
  clear hb4
  go_wp2_with fail
  have hb4 := below_new1 w4 (.cells #[.int .i64 sh, .int .i64 sl] 24)
  replace HB := Lib.hid (HB.out.trans (hb4.mono HB.out.size))
  replace HO := Lib.hid (HO.out.keep hb4)
  replace k2 := Lib.hid (k2.out.keep hb4)
  replace k3 := Lib.hid (k3.out.keep hb4)
  have k4 := Lib.hid (Lok.new w4 24 #[.int .i64 sh, .int .i64 sl])
  clear hb4
  generalize w4.alloc (.cells #[.int .i64 sh, .int .i64 sl] 24) = V4 at *
  generalize w4.heap.size = g4 at *
  go_wp2_with fail
  ((with_reducible refine (S2.out _ _ _ HO.out).mono ?_); rintro e w5 ⟨rfl, hb5⟩)
  replace HB := Lib.hid (HB.out.trans (hb5.mono HB.out.size))
  replace HO := Lib.hid (HO.out.keep hb5)
  replace k2 := Lib.hid (k2.out.keep hb5)
  replace k3 := Lib.hid (k3.out.keep hb5)
  replace k4 := Lib.hid (k4.out.keep hb5)
  clear hb5
  go_wp2_with fail
  have hb5 := below_new1 w5 (.cells #[.int .i64 sh, .int .i64 sl] 24)
  replace HB := Lib.hid (HB.out.trans (hb5.mono HB.out.size))
  replace HO := Lib.hid (HO.out.keep hb5)
  replace k2 := Lib.hid (k2.out.keep hb5)
  replace k3 := Lib.hid (k3.out.keep hb5)
  replace k4 := Lib.hid (k4.out.keep hb5)
  have k5 := Lib.hid (Lok.new w5 24 #[.int .i64 sh, .int .i64 sl])
  clear hb5
  generalize w5.alloc (.cells #[.int .i64 sh, .int .i64 sl] 24) = V5 at *
  generalize w5.heap.size = g5 at *
  go_wp2_with fail
  have hk5 := HB.out.size
  go_loopw [16] (fun i wr => ∃ k : Nat, k ≤ n ∧ i = .int .i64 k ∧ Below V5.heap.size V5 wr) (fun i _ => n - (intOf i).toNat)
  case atStart => exact ⟨0, Nat.zero_le _, rfl, Below.refl _ _⟩
  case round =>
    obtain ⟨k, hk, rfl, hB⟩ := hrel
    have z5 := hB.size
    replace HB := Lib.hid (HB.out.trans (hB.mono HB.out.size))
    replace HO := Lib.hid (HO.out.keep hB)
    replace k2 := Lib.hid (k2.out.keep hB)
    replace k3 := Lib.hid (k3.out.keep hB)
    replace k4 := Lib.hid (k4.out.keep hB)
    replace k5 := Lib.hid (k5.out.keep hB)
    have HBR : Hid (Past V5 wr) := Lib.hid hB
    clear hB
    by_cases hlt : k < n
    · obtain ⟨b1, o1, rfl, hl1, hc1⟩ := (HR.out.keep HB.out).at hlt
      obtain ⟨b2, o2, rfl, hl2, hc2⟩ := HO.out.at hlt
      obtain ⟨nh, nl, ne, n1, n2⟩ := neg_two (F k 0) (F k 1)
      have N1 := Lib.hid n1
      have N2 := Lib.hid n2
      have c0 : wr.cell? ⟨b1, o1 + k * 2, none⟩ = some (.int .i64 (F k 0)) := hc1 k hlt 0 (by omega)
      have c1 : wr.cell? ⟨b1, o1 + k * 2 + 1, none⟩ = some (.int .i64 (F k 1)) := hc1 k hlt 1 (by omega)
      have d0 : wr.cell? ⟨b2, o2 + k * 2, none⟩ = some (.int .i64 (F k 0)) := hc2 k hlt 0 (by omega)
      have d1 : wr.cell? ⟨b2, o2 + k * 2 + 1, none⟩ = some (.int .i64 (F k 1)) := hc2 k hlt 1 (by omega)
      clear hc1 hc2 n1 n2
      generalize F k 0 = p at *
      generalize F k 1 = q at *
      go_wp2_with fail
      have HC := Lib.hid (show CellsW b1 (o1 + k * 2) p q wr ∧ CellsW b2 (o2 + k * 2) p q wr from ⟨⟨c0, c1⟩, ⟨d0, d1⟩⟩)
      clear c0 c1 d0 d1
      have HC1 := Lib.hid HC.out.1
      have HC2 := Lib.hid HC.out.2
      clear HC
      ((with_reducible refine (N1.out _).mono ?_); rintro e w6 ⟨rfl, hb6⟩)
      replace HB := Lib.hid (HB.out.trans (hb6.mono HB.out.size))
      replace HO := Lib.hid (HO.out.keep hb6)
      replace HC1 := Lib.hid (HC1.out.keep hb6)
      replace HC2 := Lib.hid (HC2.out.keep hb6)
      replace HBR := Lib.hid (HBR.out.keep hb6)
      clear hb6
      have d0 := keepa (o := .cells #[.int .i64 nh, .int .i64 nl] 24) HC2.out.1; have d1 := keepa (o := .cells #[.int .i64 nh, .int .i64 nl] 24) HC2.out.2
      go_wp2_with fail
      clear d0 d1
      have hb6 := below_new1 w6 (.cells #[.int .i64 nh, .int .i64 nl] 24)
      replace HB := Lib.hid (HB.out.trans (hb6.mono HB.out.size))
      replace HO := Lib.hid (HO.out.keep hb6)
      replace HC1 := Lib.hid (HC1.out.keep hb6)
      replace HC2 := Lib.hid (HC2.out.keep hb6)
      replace HBR := Lib.hid (HBR.out.keep hb6)
      have k6 := Lib.hid (Lok.new w6 24 #[.int .i64 nh, .int .i64 nl])
      clear hb6
      generalize w6.alloc (.cells #[.int .i64 nh, .int .i64 nl] 24) = V6 at *
      generalize w6.heap.size = g6 at *
      ((with_reducible refine (N2.out _).mono ?_); rintro e w7 ⟨rfl, hb7⟩)
      replace HB := Lib.hid (HB.out.trans (hb7.mono HB.out.size))
      replace HO := Lib.hid (HO.out.keep hb7)
      replace HC1 := Lib.hid (HC1.out.keep hb7)
      replace HC2 := Lib.hid (HC2.out.keep hb7)
      replace HBR := Lib.hid (HBR.out.keep hb7)
      replace k6 := Lib.hid (k6.out.keep hb7)
      clear hb7
      go_wp2_with fail
      have hb7 := below_new1 w7 (.cells #[.int .i64 nh, .int .i64 nl] 24)
      replace HB := Lib.hid (HB.out.trans (hb7.mono HB.out.size))
      replace HO := Lib.hid (HO.out.keep hb7)
      replace HC1 := Lib.hid (HC1.out.keep hb7)
      replace HC2 := Lib.hid (HC2.out.keep hb7)
      replace HBR := Lib.hid (HBR.out.keep hb7)
      replace k6 := Lib.hid (k6.out.keep hb7)
      have k7 := Lib.hid (Lok.new w7 24 #[.int .i64 nh, .int .i64 nl])
      clear hb7
      generalize w7.alloc (.cells #[.int .i64 nh, .int .i64 nl] 24) = V7 at *
      generalize w7.heap.size = g7 at *
      go_upto_region 14 with fail
      have st : Stays (Past V7) := fun W W' h hb => h.keep hb
      have ne : Nonempty (Of (Past V7)) := ⟨⟨V7, Below.refl _ _⟩⟩
      have a0 : ∀ d : Of (Past V7), d.world.cell? ⟨g6, 0, none⟩ = some (.int .i64 nh) := fun d => keepc d.holds (k6.out.cell (i := 0) rfl)
      have a1 : ∀ d : Of (Past V7), d.world.cell? ⟨g6, 1, none⟩ = some (.int .i64 nl) := fun d => keepc d.holds (k6.out.cell (i := 1) rfl)
      have a2 : ∀ d : Of (Past V7), d.world.cell? ⟨g7, 0, none⟩ = some (.int .i64 nh) := fun d => keepc d.holds (k7.out.cell (i := 0) rfl)
      have a3 : ∀ d : Of (Past V7), d.world.cell? ⟨g7, 1, none⟩ = some (.int .i64 nl) := fun d => keepc d.holds (k7.out.cell (i := 1) rfl)
      have a4 : ∀ d : Of (Past V7), d.world.cell? ⟨b1, o1 + k * 2, none⟩ = some (.int .i64 p) := fun d => keepc d.holds HC1.out.1
      have a5 : ∀ d : Of (Past V7), d.world.cell? ⟨b1, o1 + k * 2 + 1, none⟩ = some (.int .i64 q) := fun d => keepc d.holds HC1.out.2
      have a6 : ∀ d : Of (Past V7), d.world.cell? ⟨b2, o2 + k * 2, none⟩ = some (.int .i64 p) := fun d => keepc d.holds HC2.out.1
      have a7 : ∀ d : Of (Past V7), d.world.cell? ⟨b2, o2 + k * 2 + 1, none⟩ = some (.int .i64 q) := fun d => keepc d.holds HC2.out.2
      obtain ⟨bb, I1, I2⟩ : ∃ bb : Bool, (∀ W, Calls Tryd.prog 11 #[.agg #[.int .i64 p, .int .i64 q]] W fun e w' => e = .returned (.bool bb) ∧ Below W.heap.size W w') ∧ ∀ W, Calls Tryd.prog 12 #[.agg #[.int .i64 p, .int .i64 q]] W fun e w' => e = .returned (.bool bb) ∧ Below W.heap.size W w' := ⟨isB p q, fun W => is_any p q W, fun W => ris_any p q W⟩
      have J1 := Lib.hid I1
      have J2 := Lib.hid I2
      have ST := Lib.hid st
      clear I1 I2 st
      refine wp_region_class (S := Past V7) (by kernel_rfl) (by kernel_rfl) (Below.refl _ _).drew ?_
      repeat (go_big_quiet_step (first | (go_at_call 11; exact class_call ST.out _ (J1.out _)) | (go_at_call 12; exact class_call ST.out _ (J2.out _))))
      refine wpQuiet_nil ?_
      rintro _ ⟨d, rfl⟩
      have HD : Hid (Past V5 d.world) := Lib.hid (HBR.out.keep d.holds)
      clear a0 a1 a2 a3 a4 a5 a6 a7 ne
      go_wp2
      go_roundw
      case rel => exact ⟨k + 1, hlt, by go_num, HD.out⟩
      case measure => simp [intOf]; omega
    · obtain rfl : n = k := by omega
      go_wp2_with fail
      (((with_reducible refine (widened_any _ (HT.out.below HB.out)).mono ?_); rintro e w8 ⟨rfl, hb8⟩); replace HB := Lib.hid (HB.out.trans (hb8.mono HB.out.size)); replace k2 := Lib.hid (k2.out.keep hb8); replace k3 := Lib.hid (k3.out.keep hb8); replace k4 := Lib.hid (k4.out.keep hb8); replace k5 := Lib.hid (k5.out.keep hb8); clear hb8)
      have a0 := k2.out.cell (i := 0) rfl
      have a1 := k2.out.cell (i := 1) rfl
      have a2 := k3.out.cell (i := 0) rfl
      have a3 := k3.out.cell (i := 1) rfl
      have a4 := k4.out.cell (i := 0) rfl
      have a5 := k4.out.cell (i := 1) rfl
      have a6 := k5.out.cell (i := 0) rfl
      have a7 := k5.out.cell (i := 1) rfl
      go_wp2_with fail
      (((with_reducible refine (of_any x _ ix.1 ix.2).mono ?_); rintro e w9 ⟨rfl, hb9⟩); replace HB := Lib.hid (HB.out.trans (hb9.mono HB.out.size)); clear hb9)
      go_wp2_with fail
      (((with_reducible refine (rof_any x _ ix.1 ix.2).mono ?_); rintro e w10 ⟨rfl, hb10⟩); replace HB := Lib.hid (HB.out.trans (hb10.mono HB.out.size)); clear hb10)
      go_wp2
      go_ret
      exact ⟨rfl, HB.out⟩
theorem law_makes_long (x y : Int) (A : Option Addr) (n c : Nat) (w : World) (hn : 30 < n) (hl : n ≤ 9223372036854775807) :
    Calls Tryd.prog 3 #[.int .i64 x, .int .i64 y, .slice A n c] w fun e w' => e = .returned (.bool true) ∧ Below w.heap.size w w' := by
  go_enter Tryd.func3, Tryd.ntmps3
  go_wp2
  go_ret
  exact ⟨rfl, by (repeat (first | exact Below.refl _ _ | assumption | refine Below.drew ?_ | refine below_drewN ?_ _ | refine Below.setCell ?_ (by first | omega | (simp; done) | (simp; omega)) _ | refine Below.alloc ?_ (by first | omega | (simp; done) | (simp; omega)) _))⟩
theorem law_makes (x y : Int) (A : Option Addr) (n c : Nat) (F : Nat → Nat → Int) (w : World) (ht : Tab w) (ix : -9223372036854775808 ≤ x ∧ x ≤ 9223372036854775807) (hA : A = none → n = 0 ∧ c = 0) (hr : RowK w A n 2 F) (hl : n ≤ c) (hc : c ≤ 9223372036854775807) :
    Calls Tryd.prog 3 #[.int .i64 x, .int .i64 y, .slice A n c] w fun e w' => e = .returned (.bool true) ∧ Below w.heap.size w w' := by
  by_cases hn : n ≤ 30
  · exact law_makes_short x y A n c F w ht ix hA hr hn
  · exact law_makes_long x y A n c w (by omega) (by omega)
end Go.Proofs.YtjndajndllimhaaDoor
