/-
  The reference's Is of meshes (limewashref08), and All2, All3 (limewashref04). (gen/MsC.py)
-/
import Derived.Test.YtkheomaihhcokaaMsB
import Derived.Test.YtkheomaihhcokaaVcR
import Derived.Test.YtkheomaihhcokaaVcG
namespace Go.Proofs.Ytkheomaihhcokaa
open Go.RowKit

set_option maxRecDepth 100000 in
set_option maxHeartbeats 1000000 in
theorem rnall2_any (A : Option Addr) (n c : Nat) (F : Nat → Nat → Int) (w : World) (hr : RowK w A n 2 F) (hn : n ≤ 9223372036854775807) :
    Calls Try.prog 52 #[.slice A n c] w fun e w' => e = .returned (.bool (Go.Proofs.Ytkheomaihhcokaa.a2 F n)) ∧ Below w.heap.size w w' := by
  have R := Lib.hid hr
  clear hr
  go_enter Try.func52, Try.ntmps52
  go_wp2_with fail
  go_loopw [3] (fun x wr => ∃ k : Nat, x = .int .i64 k ∧ k ≤ n ∧ (∀ j, j < k → n2 (F j 0) (F j 1) = true) ∧ Below w.heap.size w wr) (fun x _ => n - (intOf x).toNat)
  case atStart => exact ⟨0, rfl, Nat.zero_le _, fun j h => absurd h (by omega), by (repeat (first | exact Below.refl _ _ | assumption | refine Below.drew ?_ | refine below_drewN ?_ _ | refine Below.setCell ?_ (by first | omega | (simp; done) | (simp; omega)) _ | refine Below.alloc ?_ (by first | omega | (simp; done) | (simp; omega)) _))⟩
  case round =>
    obtain ⟨k, rfl, hk, hR, hB⟩ := hrel
    have HB := Lib.hid hB
    have HR := Lib.hid hR
    clear hB hR
    by_cases hlt : k < n
    · obtain ⟨b, o, rfl, hb, hc⟩ := (R.out.keep HB.out).at hlt
      have c0 := hc k hlt 0 (by omega)
      have c1 := hc k hlt 1 (by omega)
      rw [Nat.add_zero] at c0
      rw [← Nat.add_assoc] at c1
      have no : n2 (F k 0) (F k 1) = false → Go.Proofs.Ytkheomaihhcokaa.a2 F n = false := allB_no (P := fun i => n2 (F i 0) (F i 1)) hlt
      have yes : n2 (F k 0) (F k 1) = true → ∀ j, j < k + 1 → n2 (F j 0) (F j 1) = true := fun q j hj => by
        by_cases e : j = k
        · rw [e]; exact q
        · exact HR.out j (by omega)
      generalize F k 0 = x at *
      generalize F k 1 = y at *
      have NO := Lib.hid no
      have YES := Lib.hid yes
      clear no yes hc
      have SM1 := Lib.hid (fun W => ris2_any x y W)
      have i0 : (0 : Int) ≤ (k : Int) := by omega
      have i1 : (k : Int) < (n : Int) := by omega
      have i2 : ((k : Int)).toNat = k := by omega
      go_wp2_with fail
      (((with_reducible refine (SM1.out _).mono ?_); rintro e w1 ⟨rfl, hb1⟩); replace HB := Lib.hid (HB.out.trans (hb1.mono HB.out.size)); clear hb1)
      clear SM1
      cases hn2 : n2 x y with
      | false =>
        have E := Lib.hid (NO.out hn2)
        clear NO YES hn2 c0 c1
        go_wp2
        go_ret
        exact ⟨by rw [E.out]; rfl, HB.out⟩
      | true =>
        have E := Lib.hid (YES.out hn2)
        clear NO YES hn2 c0 c1
        go_wp2
        go_roundw
        case rel => exact ⟨k + 1, by go_num, hlt, E.out, HB.out⟩
        case measure => simp [intOf]; omega
    · obtain rfl : k = n := by omega
      go_wp2
      go_ret
      refine ⟨?_, HB.out⟩
      have e : Go.Proofs.Ytkheomaihhcokaa.a2 F k = true := allB_yes HR.out
      rw [e]; rfl
set_option maxRecDepth 100000 in
set_option maxHeartbeats 1000000 in
theorem rnall3_any (A : Option Addr) (n c : Nat) (F : Nat → Nat → Int) (w : World) (hr : RowK w A n 3 F) (hn : n ≤ 9223372036854775807) :
    Calls Try.prog 51 #[.slice A n c] w fun e w' => e = .returned (.bool (Go.Proofs.Ytkheomaihhcokaa.a3 F n)) ∧ Below w.heap.size w w' := by
  have R := Lib.hid hr
  clear hr
  go_enter Try.func51, Try.ntmps51
  go_wp2_with fail
  go_loopw [3] (fun x wr => ∃ k : Nat, x = .int .i64 k ∧ k ≤ n ∧ (∀ j, j < k → n3 (F j 0) (F j 1) (F j 2) = true) ∧ Below w.heap.size w wr) (fun x _ => n - (intOf x).toNat)
  case atStart => exact ⟨0, rfl, Nat.zero_le _, fun j h => absurd h (by omega), by (repeat (first | exact Below.refl _ _ | assumption | refine Below.drew ?_ | refine below_drewN ?_ _ | refine Below.setCell ?_ (by first | omega | (simp; done) | (simp; omega)) _ | refine Below.alloc ?_ (by first | omega | (simp; done) | (simp; omega)) _))⟩
  case round =>
    obtain ⟨k, rfl, hk, hR, hB⟩ := hrel
    have HB := Lib.hid hB
    have HR := Lib.hid hR
    clear hB hR
    by_cases hlt : k < n
    · obtain ⟨b, o, rfl, hb, hc⟩ := (R.out.keep HB.out).at hlt
      have c0 := hc k hlt 0 (by omega)
      have c1 := hc k hlt 1 (by omega)
      have c2 := hc k hlt 2 (by omega)
      rw [Nat.add_zero] at c0
      rw [← Nat.add_assoc] at c1 c2
      have no : n3 (F k 0) (F k 1) (F k 2) = false → Go.Proofs.Ytkheomaihhcokaa.a3 F n = false := allB_no (P := fun i => n3 (F i 0) (F i 1) (F i 2)) hlt
      have yes : n3 (F k 0) (F k 1) (F k 2) = true → ∀ j, j < k + 1 → n3 (F j 0) (F j 1) (F j 2) = true := fun q j hj => by
        by_cases e : j = k
        · rw [e]; exact q
        · exact HR.out j (by omega)
      generalize F k 0 = x at *
      generalize F k 1 = y at *
      generalize F k 2 = z at *
      have NO := Lib.hid no
      have YES := Lib.hid yes
      clear no yes hc
      have SM1 := Lib.hid (fun W => ris3_any x y z W)
      have i0 : (0 : Int) ≤ (k : Int) := by omega
      have i1 : (k : Int) < (n : Int) := by omega
      have i2 : ((k : Int)).toNat = k := by omega
      go_wp2_with fail
      (((with_reducible refine (SM1.out _).mono ?_); rintro e w1 ⟨rfl, hb1⟩); replace HB := Lib.hid (HB.out.trans (hb1.mono HB.out.size)); clear hb1)
      clear SM1
      cases hn2 : n3 x y z with
      | false =>
        have E := Lib.hid (NO.out hn2)
        clear NO YES hn2 c0 c1 c2
        go_wp2
        go_ret
        exact ⟨by rw [E.out]; rfl, HB.out⟩
      | true =>
        have E := Lib.hid (YES.out hn2)
        clear NO YES hn2 c0 c1 c2
        go_wp2
        go_roundw
        case rel => exact ⟨k + 1, by go_num, hlt, E.out, HB.out⟩
        case measure => simp [intOf]; omega
    · obtain rfl : k = n := by omega
      go_wp2
      go_ret
      refine ⟨?_, HB.out⟩
      have e : Go.Proofs.Ytkheomaihhcokaa.a3 F k = true := allB_yes HR.out
      rw [e]; rfl
/-- Between two numbers, or one of them. -/
def wiB (n l m : Int) : Bool := decide (l ≤ n ∧ n ≤ m)
theorem wiB_ge {n l m : Int} (h : l ≤ n) : wiB n l m = decide (n ≤ m) := decide_eq_decide.2 ⟨fun q => q.2, fun q => ⟨h, q⟩⟩
theorem wiB_no {n l m : Int} (h : ¬ l ≤ n) : wiB n l m = false := decide_eq_false (fun q => h q.1)
theorem wiB_pl (p : Int) (n : Nat) : wiB p 0 ((n : Int) - 1) = plB p n := decide_eq_decide.2 (by omega)
theorem wiB_pn (p : Int) (n : Nat) : wiB p (-1) ((n : Int) - 1) = pnB p n := decide_eq_decide.2 (by omega)
set_option maxRecDepth 100000 in
set_option maxHeartbeats 4000000 in
theorem within8_any (n l m : Int) (w : World) :
    Calls Try.prog 53 #[.int .i64 n, .int .i64 l, .int .i64 m] w fun e' w' => e' = .returned (.bool (wiB n l m)) ∧ Below w.heap.size w w' := by
  have HB := Lib.hid (Below.refl w.heap.size w)
  by_cases h : l ≤ n
  · rw [wiB_ge h]
    go_enter Try.func53, Try.ntmps53
    go_wp2
    go_ret
    exact ⟨rfl, HB.out⟩
  · rw [wiB_no h]
    go_enter Try.func53, Try.ntmps53
    go_wp2
    go_ret
    exact ⟨rfl, HB.out⟩
theorem nine_at (c : Nat → Int) {k j : Nat} (hk : k < 3) (hj : j < 3) : (#[.int .i64 (c 0), .int .i64 (c 1), .int .i64 (c 2), .int .i64 (c 3), .int .i64 (c 4), .int .i64 (c 5), .int .i64 (c 6), .int .i64 (c 7), .int .i64 (c 8)] : Array Value)[k * 3 + j]? = some (.int .i64 (c (k * 3 + j))) := by
  rcases show k = 0 ∨ k = 1 ∨ k = 2 by omega with rfl | rfl | rfl <;> rcases show j = 0 ∨ j = 1 ∨ j = 2 by omega with rfl | rfl | rfl <;> rfl
set_option maxRecDepth 100000 in
set_option maxHeartbeats 16000000 in
theorem rmis_any (pa1 pa2 pa3 pa4 : Option Addr) (n1 n2 n3 n4 c1 c2 c3 c4 : Nat) (FV FT FN FC : Nat → Nat → Int) (w : World) (hm : MsW w pa1 pa2 pa3 pa4 n1 n2 n3 n4 FV FT FN FC) :
    Calls Try.prog 35 #[.agg #[.slice pa1 n1 c1, .slice pa2 n2 c2, .slice pa3 n3 c3, .slice pa4 n4 c4]] w fun e' w' => e' = .returned (.bool (msB n1 n2 n3 n4 FV FT FN FC)) ∧ Below w.heap.size w w' := by
  have HB := Lib.hid (Below.refl w.heap.size w)
  have M := Lib.hid hm
  clear hm
  have V := Lib.hid (fun W (h : Below w.heap.size w W) => rnall3_any pa1 n1 c1 FV W (M.out.keep h).1.1 (by have := M.out.2.1; omega))
  have T := Lib.hid (fun W (h : Below w.heap.size w W) => rnall2_any pa2 n2 c2 FT W (M.out.keep h).1.2.1 (by have := M.out.2.2.1; omega))
  have N := Lib.hid (fun W (h : Below w.heap.size w W) => rnall3_any pa3 n3 c3 FN W (M.out.keep h).1.2.2.1 (by have := M.out.2.2.2.1; omega))
  by_cases p1 : n1 ≤ 2000
  case neg =>
    have E : Hid (msB n1 n2 n3 n4 FV FT FN FC = false) := Lib.hid (by unfold msB; rw [shB_no (by omega)]; rfl)
    have q1 : (2000 : Int) < (n1 : Int) := by omega
    have q2 : 2000 < n1 := by omega
    clear V T N
    go_enter Try.func35, Try.ntmps35
    go_upto_region 1 with fail
    have hbm := below_new1 w (.cells #[.slice pa1 n1 c1, .slice pa2 n2 c2, .slice pa3 n3 c3, .slice pa4 n4 c4] 26)
    have zm : (w.alloc (.cells #[.slice pa1 n1 c1, .slice pa2 n2 c2, .slice pa3 n3 c3, .slice pa4 n4 c4] 26)).heap.size = w.heap.size + 1 := by simp
    have HB := Lib.hid hbm
    have km := Lib.hid (Lok.new w 26 #[.slice pa1 n1 c1, .slice pa2 n2 c2, .slice pa3 n3 c3, .slice pa4 n4 c4])
    clear hbm
    generalize w.alloc (.cells #[.slice pa1 n1 c1, .slice pa2 n2 c2, .slice pa3 n3 c3, .slice pa4 n4 c4] 26) = Vm at *
    clear zm
    have m0 := km.out.cell (i := 0) rfl
    have m1 := km.out.cell (i := 1) rfl
    have m2 := km.out.cell (i := 2) rfl
    have m3 := km.out.cell (i := 3) rfl
    go_wp2
    go_ret
    exact ⟨by rw [E.out]; rfl, HB.out⟩
  have r1 : ¬ (2000 : Int) < (n1 : Int) := by omega
  have s1 : ¬ 2000 < n1 := by omega
  by_cases p2 : n2 ≤ 2000
  case neg =>
    have E : Hid (msB n1 n2 n3 n4 FV FT FN FC = false) := Lib.hid (by unfold msB; rw [shB_no (by omega)]; rfl)
    have q1 : (2000 : Int) < (n2 : Int) := by omega
    have q2 : 2000 < n2 := by omega
    clear V T N
    go_enter Try.func35, Try.ntmps35
    go_upto_region 1 with fail
    have hbm := below_new1 w (.cells #[.slice pa1 n1 c1, .slice pa2 n2 c2, .slice pa3 n3 c3, .slice pa4 n4 c4] 26)
    have zm : (w.alloc (.cells #[.slice pa1 n1 c1, .slice pa2 n2 c2, .slice pa3 n3 c3, .slice pa4 n4 c4] 26)).heap.size = w.heap.size + 1 := by simp
    have HB := Lib.hid hbm
    have km := Lib.hid (Lok.new w 26 #[.slice pa1 n1 c1, .slice pa2 n2 c2, .slice pa3 n3 c3, .slice pa4 n4 c4])
    clear hbm
    generalize w.alloc (.cells #[.slice pa1 n1 c1, .slice pa2 n2 c2, .slice pa3 n3 c3, .slice pa4 n4 c4] 26) = Vm at *
    clear zm
    have m0 := km.out.cell (i := 0) rfl
    have m1 := km.out.cell (i := 1) rfl
    have m2 := km.out.cell (i := 2) rfl
    have m3 := km.out.cell (i := 3) rfl
    go_wp2
    go_ret
    exact ⟨by rw [E.out]; rfl, HB.out⟩
  have r2 : ¬ (2000 : Int) < (n2 : Int) := by omega
  have s2 : ¬ 2000 < n2 := by omega
  by_cases p3 : n3 ≤ 2000
  case neg =>
    have E : Hid (msB n1 n2 n3 n4 FV FT FN FC = false) := Lib.hid (by unfold msB; rw [shB_no (by omega)]; rfl)
    have q1 : (2000 : Int) < (n3 : Int) := by omega
    have q2 : 2000 < n3 := by omega
    clear V T N
    go_enter Try.func35, Try.ntmps35
    go_upto_region 1 with fail
    have hbm := below_new1 w (.cells #[.slice pa1 n1 c1, .slice pa2 n2 c2, .slice pa3 n3 c3, .slice pa4 n4 c4] 26)
    have zm : (w.alloc (.cells #[.slice pa1 n1 c1, .slice pa2 n2 c2, .slice pa3 n3 c3, .slice pa4 n4 c4] 26)).heap.size = w.heap.size + 1 := by simp
    have HB := Lib.hid hbm
    have km := Lib.hid (Lok.new w 26 #[.slice pa1 n1 c1, .slice pa2 n2 c2, .slice pa3 n3 c3, .slice pa4 n4 c4])
    clear hbm
    generalize w.alloc (.cells #[.slice pa1 n1 c1, .slice pa2 n2 c2, .slice pa3 n3 c3, .slice pa4 n4 c4] 26) = Vm at *
    clear zm
    have m0 := km.out.cell (i := 0) rfl
    have m1 := km.out.cell (i := 1) rfl
    have m2 := km.out.cell (i := 2) rfl
    have m3 := km.out.cell (i := 3) rfl
    go_wp2
    go_ret
    exact ⟨by rw [E.out]; rfl, HB.out⟩
  have r3 : ¬ (2000 : Int) < (n3 : Int) := by omega
  have s3 : ¬ 2000 < n3 := by omega
  by_cases p4 : n4 ≤ 500
  case neg =>
    have E : Hid (msB n1 n2 n3 n4 FV FT FN FC = false) := Lib.hid (by unfold msB; rw [shB_no (by omega)]; rfl)
    have q1 : (500 : Int) < (n4 : Int) := by omega
    have q2 : 500 < n4 := by omega
    clear V T N
    go_enter Try.func35, Try.ntmps35
    go_upto_region 1 with fail
    have hbm := below_new1 w (.cells #[.slice pa1 n1 c1, .slice pa2 n2 c2, .slice pa3 n3 c3, .slice pa4 n4 c4] 26)
    have zm : (w.alloc (.cells #[.slice pa1 n1 c1, .slice pa2 n2 c2, .slice pa3 n3 c3, .slice pa4 n4 c4] 26)).heap.size = w.heap.size + 1 := by simp
    have HB := Lib.hid hbm
    have km := Lib.hid (Lok.new w 26 #[.slice pa1 n1 c1, .slice pa2 n2 c2, .slice pa3 n3 c3, .slice pa4 n4 c4])
    clear hbm
    generalize w.alloc (.cells #[.slice pa1 n1 c1, .slice pa2 n2 c2, .slice pa3 n3 c3, .slice pa4 n4 c4] 26) = Vm at *
    clear zm
    have m0 := km.out.cell (i := 0) rfl
    have m1 := km.out.cell (i := 1) rfl
    have m2 := km.out.cell (i := 2) rfl
    have m3 := km.out.cell (i := 3) rfl
    go_wp2
    go_ret
    exact ⟨by rw [E.out]; rfl, HB.out⟩
  have r4 : ¬ (500 : Int) < (n4 : Int) := by omega
  have s4 : ¬ 500 < n4 := by omega
  have hs : shB n1 n2 n3 n4 = true := shB_iff.2 ⟨⟨p1, p2, p3⟩, p4⟩
  cases h1 : a3 FV n1 with
  | false =>
    rw [h1] at V
    have E : Hid (msB n1 n2 n3 n4 FV FT FN FC = false) := Lib.hid (by unfold msB; rw [hs, h1]; simp)
    clear hs p1 p2 p3 p4 h1
    go_enter Try.func35, Try.ntmps35
    go_upto_region 1 with fail
    have hbm := below_new1 w (.cells #[.slice pa1 n1 c1, .slice pa2 n2 c2, .slice pa3 n3 c3, .slice pa4 n4 c4] 26)
    have zm : (w.alloc (.cells #[.slice pa1 n1 c1, .slice pa2 n2 c2, .slice pa3 n3 c3, .slice pa4 n4 c4] 26)).heap.size = w.heap.size + 1 := by simp
    have HB := Lib.hid hbm
    have km := Lib.hid (Lok.new w 26 #[.slice pa1 n1 c1, .slice pa2 n2 c2, .slice pa3 n3 c3, .slice pa4 n4 c4])
    clear hbm
    generalize w.alloc (.cells #[.slice pa1 n1 c1, .slice pa2 n2 c2, .slice pa3 n3 c3, .slice pa4 n4 c4] 26) = Vm at *
    clear zm
    have m0 := km.out.cell (i := 0) rfl
    have m1 := km.out.cell (i := 1) rfl
    have m2 := km.out.cell (i := 2) rfl
    have m3 := km.out.cell (i := 3) rfl
    go_wp2_with fail
    clear m0 m1 m2 m3
    (((with_reducible refine (V.out _ HB.out).mono ?_); rintro e w1 ⟨rfl, hb1⟩); replace HB := Lib.hid (HB.out.trans (hb1.mono HB.out.size)); replace km := Lib.hid (km.out.keep hb1); clear hb1)
    clear km
    go_wp2
    go_ret
    exact ⟨by rw [E.out]; rfl, HB.out⟩
  | true =>
    rw [h1] at V
    cases h2 : a2 FT n2 with
    | false =>
      rw [h2] at T
      have E : Hid (msB n1 n2 n3 n4 FV FT FN FC = false) := Lib.hid (by unfold msB; rw [hs, h1, h2]; simp)
      clear hs p1 p2 p3 p4 h1 h2
      go_enter Try.func35, Try.ntmps35
      go_upto_region 1 with fail
      have hbm := below_new1 w (.cells #[.slice pa1 n1 c1, .slice pa2 n2 c2, .slice pa3 n3 c3, .slice pa4 n4 c4] 26)
      have zm : (w.alloc (.cells #[.slice pa1 n1 c1, .slice pa2 n2 c2, .slice pa3 n3 c3, .slice pa4 n4 c4] 26)).heap.size = w.heap.size + 1 := by simp
      have HB := Lib.hid hbm
      have km := Lib.hid (Lok.new w 26 #[.slice pa1 n1 c1, .slice pa2 n2 c2, .slice pa3 n3 c3, .slice pa4 n4 c4])
      clear hbm
      generalize w.alloc (.cells #[.slice pa1 n1 c1, .slice pa2 n2 c2, .slice pa3 n3 c3, .slice pa4 n4 c4] 26) = Vm at *
      clear zm
      have m0 := km.out.cell (i := 0) rfl
      have m1 := km.out.cell (i := 1) rfl
      have m2 := km.out.cell (i := 2) rfl
      have m3 := km.out.cell (i := 3) rfl
      go_wp2_with fail
      clear m0 m1 m2 m3
      (((with_reducible refine (V.out _ HB.out).mono ?_); rintro e w1 ⟨rfl, hb1⟩); replace HB := Lib.hid (HB.out.trans (hb1.mono HB.out.size)); replace km := Lib.hid (km.out.keep hb1); clear hb1)
      have m0 := km.out.cell (i := 0) rfl
      have m1 := km.out.cell (i := 1) rfl
      have m2 := km.out.cell (i := 2) rfl
      have m3 := km.out.cell (i := 3) rfl
      go_wp2_with fail
      clear m0 m1 m2 m3
      (((with_reducible refine (T.out _ HB.out).mono ?_); rintro e w2 ⟨rfl, hb2⟩); replace HB := Lib.hid (HB.out.trans (hb2.mono HB.out.size)); replace km := Lib.hid (km.out.keep hb2); clear hb2)
      clear km
      go_wp2
      go_ret
      exact ⟨by rw [E.out]; rfl, HB.out⟩
    | true =>
      rw [h2] at T
      cases h3 : a3 FN n3 with
      | false =>
        rw [h3] at N
        have E : Hid (msB n1 n2 n3 n4 FV FT FN FC = false) := Lib.hid (by unfold msB; rw [hs, h1, h2, h3]; simp)
        clear hs p1 p2 p3 p4 h1 h2 h3
        go_enter Try.func35, Try.ntmps35
        go_upto_region 1 with fail
        have hbm := below_new1 w (.cells #[.slice pa1 n1 c1, .slice pa2 n2 c2, .slice pa3 n3 c3, .slice pa4 n4 c4] 26)
        have zm : (w.alloc (.cells #[.slice pa1 n1 c1, .slice pa2 n2 c2, .slice pa3 n3 c3, .slice pa4 n4 c4] 26)).heap.size = w.heap.size + 1 := by simp
        have HB := Lib.hid hbm
        have km := Lib.hid (Lok.new w 26 #[.slice pa1 n1 c1, .slice pa2 n2 c2, .slice pa3 n3 c3, .slice pa4 n4 c4])
        clear hbm
        generalize w.alloc (.cells #[.slice pa1 n1 c1, .slice pa2 n2 c2, .slice pa3 n3 c3, .slice pa4 n4 c4] 26) = Vm at *
        clear zm
        have m0 := km.out.cell (i := 0) rfl
        have m1 := km.out.cell (i := 1) rfl
        have m2 := km.out.cell (i := 2) rfl
        have m3 := km.out.cell (i := 3) rfl
        go_wp2_with fail
        clear m0 m1 m2 m3
        (((with_reducible refine (V.out _ HB.out).mono ?_); rintro e w1 ⟨rfl, hb1⟩); replace HB := Lib.hid (HB.out.trans (hb1.mono HB.out.size)); replace km := Lib.hid (km.out.keep hb1); clear hb1)
        have m0 := km.out.cell (i := 0) rfl
        have m1 := km.out.cell (i := 1) rfl
        have m2 := km.out.cell (i := 2) rfl
        have m3 := km.out.cell (i := 3) rfl
        go_wp2_with fail
        clear m0 m1 m2 m3
        (((with_reducible refine (T.out _ HB.out).mono ?_); rintro e w2 ⟨rfl, hb2⟩); replace HB := Lib.hid (HB.out.trans (hb2.mono HB.out.size)); replace km := Lib.hid (km.out.keep hb2); clear hb2)
        have m0 := km.out.cell (i := 0) rfl
        have m1 := km.out.cell (i := 1) rfl
        have m2 := km.out.cell (i := 2) rfl
        have m3 := km.out.cell (i := 3) rfl
        go_wp2_with fail
        clear m0 m1 m2 m3
        (((with_reducible refine (N.out _ HB.out).mono ?_); rintro e w3 ⟨rfl, hb3⟩); replace HB := Lib.hid (HB.out.trans (hb3.mono HB.out.size)); replace km := Lib.hid (km.out.keep hb3); clear hb3)
        clear km
        go_wp2
        go_ret
        exact ⟨by rw [E.out]; rfl, HB.out⟩
      | true =>
        rw [h3] at N
        have HM : Hid (msB n1 n2 n3 n4 FV FT FN FC = allB (fun i => trB n1 n2 n3 (FC i)) n4) := Lib.hid (by unfold msB; rw [hs, h1, h2, h3]; rfl)
        have e1 : IntKind.i64.wrap ((n1 : Int) - 1) = (n1 : Int) - 1 := IntWalk.i64_in _ (by omega)
        have e2 : IntKind.i64.wrap ((n2 : Int) - 1) = (n2 : Int) - 1 := IntWalk.i64_in _ (by omega)
        have e3 : IntKind.i64.wrap ((n3 : Int) - 1) = (n3 : Int) - 1 := IntWalk.i64_in _ (by omega)
        clear hs h1 h2 h3
        go_enter Try.func35, Try.ntmps35
        go_upto_region 1 with fail
        have hbm := below_new1 w (.cells #[.slice pa1 n1 c1, .slice pa2 n2 c2, .slice pa3 n3 c3, .slice pa4 n4 c4] 26)
        have zm : (w.alloc (.cells #[.slice pa1 n1 c1, .slice pa2 n2 c2, .slice pa3 n3 c3, .slice pa4 n4 c4] 26)).heap.size = w.heap.size + 1 := by simp
        have HB := Lib.hid hbm
        have km := Lib.hid (Lok.new w 26 #[.slice pa1 n1 c1, .slice pa2 n2 c2, .slice pa3 n3 c3, .slice pa4 n4 c4])
        clear hbm
        generalize w.alloc (.cells #[.slice pa1 n1 c1, .slice pa2 n2 c2, .slice pa3 n3 c3, .slice pa4 n4 c4] 26) = Vm at *
        clear zm
        have m0 := km.out.cell (i := 0) rfl
        have m1 := km.out.cell (i := 1) rfl
        have m2 := km.out.cell (i := 2) rfl
        have m3 := km.out.cell (i := 3) rfl
        go_wp2_with fail
        clear m0 m1 m2 m3
        (((with_reducible refine (V.out _ HB.out).mono ?_); rintro e w1 ⟨rfl, hb1⟩); replace HB := Lib.hid (HB.out.trans (hb1.mono HB.out.size)); replace km := Lib.hid (km.out.keep hb1); clear hb1)
        have m0 := km.out.cell (i := 0) rfl
        have m1 := km.out.cell (i := 1) rfl
        have m2 := km.out.cell (i := 2) rfl
        have m3 := km.out.cell (i := 3) rfl
        go_wp2_with fail
        clear m0 m1 m2 m3
        (((with_reducible refine (T.out _ HB.out).mono ?_); rintro e w2 ⟨rfl, hb2⟩); replace HB := Lib.hid (HB.out.trans (hb2.mono HB.out.size)); replace km := Lib.hid (km.out.keep hb2); clear hb2)
        have m0 := km.out.cell (i := 0) rfl
        have m1 := km.out.cell (i := 1) rfl
        have m2 := km.out.cell (i := 2) rfl
        have m3 := km.out.cell (i := 3) rfl
        go_wp2_with fail
        clear m0 m1 m2 m3
        (((with_reducible refine (N.out _ HB.out).mono ?_); rintro e w3 ⟨rfl, hb3⟩); replace HB := Lib.hid (HB.out.trans (hb3.mono HB.out.size)); replace km := Lib.hid (km.out.keep hb3); clear hb3)
        have km0 := km
        have HB0 := HB
        clear km HB V T N r1 r2 r3 r4 s1 s2 s3 s4
        have m3 := km0.out.cell (i := 3) rfl
        go_wp2_with fail
        clear m3
        go_loopw [3] (fun x wr => ∃ i : Nat, x = .int .i64 i ∧ i ≤ n4 ∧ (∀ j, j < i → trB n1 n2 n3 (FC j) = true) ∧ Below w3.heap.size w3 wr) (fun x _ => n4 - (intOf x).toNat)
        case atStart => exact ⟨0, rfl, Nat.zero_le _, fun j h => absurd h (by omega), Below.refl _ _⟩
        case round =>
          obtain ⟨i, rfl, hi, hR, hB⟩ := hrel
          have HB := Lib.hid (HB0.out.trans (hB.mono HB0.out.size))
          have BW := Lib.hid hB
          have km := Lib.hid (km0.out.keep hB)
          have HR := Lib.hid hR
          clear hB hR
          have m3 := km.out.cell (i := 3) rfl
          by_cases hlt : i < n4
          · obtain ⟨b, o, rfl, hb, hc⟩ := ((M.out.keep HB.out).1.2.2.2).at hlt
            have d0 := hc i hlt 0 (by omega)
            have d1 := hc i hlt 1 (by omega)
            have d2 := hc i hlt 2 (by omega)
            have d3 := hc i hlt 3 (by omega)
            have d4 := hc i hlt 4 (by omega)
            have d5 := hc i hlt 5 (by omega)
            have d6 := hc i hlt 6 (by omega)
            have d7 := hc i hlt 7 (by omega)
            have d8 := hc i hlt 8 (by omega)
            rw [Nat.add_zero] at d0
            rw [← Nat.add_assoc] at d1 d2 d3 d4 d5 d6 d7 d8
            have no : trB n1 n2 n3 (FC i) = false → allB (fun i => trB n1 n2 n3 (FC i)) n4 = false := allB_no (P := fun i => trB n1 n2 n3 (FC i)) hlt
            have yes : trB n1 n2 n3 (FC i) = true → ∀ j, j < i + 1 → trB n1 n2 n3 (FC j) = true := fun q j hj => by
              by_cases e : j = i
              · rw [e]; exact q
              · exact HR.out j (by omega)
            clear hc
            generalize FC i = c at *
            have NO := Lib.hid no
            have YES := Lib.hid yes
            clear no yes
            have i0 : (0 : Int) ≤ (i : Int) := by omega
            have i1 : (i : Int) < (n4 : Int) := by omega
            have i2 : ((i : Int)).toNat = i := by omega
            have BW2 := Lib.hid (BW.out.trans ((below_new1 wr (.cells #[.int .i64 (c 0), .int .i64 (c 1), .int .i64 (c 2), .int .i64 (c 3), .int .i64 (c 4), .int .i64 (c 5), .int .i64 (c 6), .int .i64 (c 7), .int .i64 (c 8)] 51)).mono BW.out.size))
            go_upto_region 7 with fail
            have hbp := below_new1 wr (.cells #[.int .i64 (c 0), .int .i64 (c 1), .int .i64 (c 2), .int .i64 (c 3), .int .i64 (c 4), .int .i64 (c 5), .int .i64 (c 6), .int .i64 (c 7), .int .i64 (c 8)] 51)
            replace km := Lib.hid (km.out.keep hbp)
            have zp : (wr.alloc (.cells #[.int .i64 (c 0), .int .i64 (c 1), .int .i64 (c 2), .int .i64 (c 3), .int .i64 (c 4), .int .i64 (c 5), .int .i64 (c 6), .int .i64 (c 7), .int .i64 (c 8)] 51)).heap.size = wr.heap.size + 1 := by simp
            replace HB := Lib.hid (HB.out.trans (hbp.mono HB.out.size))
            have kp := Lib.hid (Lok.new wr 51 #[.int .i64 (c 0), .int .i64 (c 1), .int .i64 (c 2), .int .i64 (c 3), .int .i64 (c 4), .int .i64 (c 5), .int .i64 (c 6), .int .i64 (c 7), .int .i64 (c 8)])
            clear hbp
            generalize wr.alloc (.cells #[.int .i64 (c 0), .int .i64 (c 1), .int .i64 (c 2), .int .i64 (c 3), .int .i64 (c 4), .int .i64 (c 5), .int .i64 (c 6), .int .i64 (c 7), .int .i64 (c 8)] 51) = Vp at *
            clear zp d0 d1 d2 d3 d4 d5 d6 d7 d8 BW m3
            have km2 := km
            have kp2 := kp
            have HB2 := HB
            clear km kp HB
            go_wp2_with fail
            go_loopw [5] (fun x wr => ∃ k : Nat, x = .int .i64 k ∧ k ≤ 3 ∧ (∀ j, j < k → cnB n1 n2 n3 (c (j * 3)) (c (j * 3 + 1)) (c (j * 3 + 2)) (c 1) (c 2) = true) ∧ Below Vp.heap.size Vp wr) (fun x _ => 3 - (intOf x).toNat)
            case atStart => exact ⟨0, rfl, Nat.zero_le _, fun j h => absurd h (by omega), Below.refl _ _⟩
            case round =>
              obtain ⟨k, rfl, hk, hS, hB⟩ := hrel
              have HB := Lib.hid (HB2.out.trans (hB.mono HB2.out.size))
              have BV := Lib.hid hB
              have km := Lib.hid (km2.out.keep hB)
              have kp := Lib.hid (kp2.out.keep hB)
              have HS := Lib.hid hS
              clear hB hS
              by_cases hl3 : k < 3
              · have q0 : ∀ D : Of (PastV wr), _ := fun D => (kp.out.keep (show Below wr.heap.size wr D.world from D.holds)).cell (nine_at c hl3 (show 0 < 3 by omega))
                have q1 : ∀ D : Of (PastV wr), _ := fun D => (kp.out.keep (show Below wr.heap.size wr D.world from D.holds)).cell (nine_at c hl3 (show 1 < 3 by omega))
                have q2 : ∀ D : Of (PastV wr), _ := fun D => (kp.out.keep (show Below wr.heap.size wr D.world from D.holds)).cell (nine_at c hl3 (show 2 < 3 by omega))
                have q3 : ∀ D : Of (PastV wr), _ := fun D => (kp.out.keep (show Below wr.heap.size wr D.world from D.holds)).cell (i := 1) rfl
                have q4 : ∀ D : Of (PastV wr), _ := fun D => (kp.out.keep (show Below wr.heap.size wr D.world from D.holds)).cell (i := 2) rfl
                have m0 : ∀ D : Of (PastV wr), _ := fun D => (km.out.keep (show Below wr.heap.size wr D.world from D.holds)).cell (i := 0) rfl
                have m1 : ∀ D : Of (PastV wr), _ := fun D => (km.out.keep (show Below wr.heap.size wr D.world from D.holds)).cell (i := 1) rfl
                have m2 : ∀ D : Of (PastV wr), _ := fun D => (km.out.keep (show Below wr.heap.size wr D.world from D.holds)).cell (i := 2) rfl
                simp only [Nat.add_zero] at q0
                have CN : Hid (cnB n1 n2 n3 (c (k * 3)) (c (k * 3 + 1)) (c (k * 3 + 2)) (c 1) (c 2) = false → allB (fun i => trB n1 n2 n3 (FC i)) n4 = false) := Lib.hid (fun q => NO.out (allB_no (P := fun k => cnB n1 n2 n3 (c (k * 3)) (c (k * 3 + 1)) (c (k * 3 + 2)) (c 1) (c 2)) hl3 q))
                have CY : Hid (cnB n1 n2 n3 (c (k * 3)) (c (k * 3 + 1)) (c (k * 3 + 2)) (c 1) (c 2) = true → ∀ j, j < k + 1 → cnB n1 n2 n3 (c (j * 3)) (c (j * 3 + 1)) (c (j * 3 + 2)) (c 1) (c 2) = true) := Lib.hid (fun q j hj => by
                  by_cases e : j = k
                  · rw [e]; exact q
                  · exact HS.out j (by omega))
                have T0 : Hid (pnB (c (k * 3 + 1)) n2 = true → pnB (c (k * 3 + 2)) n3 = true → -1 ≤ c 1 ∧ -1 ≤ c 2) := Lib.hid (fun a b => by
                  rcases Nat.eq_zero_or_pos k with z | z
                  · subst z; exact ⟨(pnB_iff.1 a).1, (pnB_iff.1 b).1⟩
                  · have y := cnB_iff.1 (HS.out 0 z); exact ⟨y.2.1.1, y.2.2.1.1⟩)
                generalize c (k * 3) = v at *
                generalize c (k * 3 + 1) = t at *
                generalize c (k * 3 + 2) = u at *
                generalize c 1 = t0 at *
                generalize c 2 = u0 at *
                have W1 := Lib.hid (fun W => within8_any v 0 ((n1 : Int) - 1) W)
                have W2 := Lib.hid (fun W => within8_any t (-1) ((n2 : Int) - 1) W)
                have W3 := Lib.hid (fun W => within8_any u (-1) ((n3 : Int) - 1) W)
                rw [wiB_pl] at W1
                rw [wiB_pn] at W2 W3
                clear HS NO
                have k0 : (0 : Int) ≤ (k : Int) := by omega
                have k1 : (k : Int) < 3 := by omega
                have k2 : ((k : Int)).toNat = k := by omega
                have ST := Lib.hid (pastV_stays wr)
                have ne : Nonempty (Of (PastV wr)) := ⟨⟨wr, Below.refl _ _⟩⟩
                go_upto_region 10 with fail
                cases g1 : plB v n1 with
                | false =>
                  rw [g1] at W1
                  have E : Hid (allB (fun i => trB n1 n2 n3 (FC i)) n4 = false) := by
                    refine Lib.hid (CN.out ?_)
                    cases e : cnB n1 n2 n3 v t u t0 u0 with
                    | false => rfl
                    | true =>
                      have y := (cnB_iff.1 e).1
                      rw [plB_iff.2 y] at g1; cases g1
                  clear CN CY YES g1
                  refine wp_region_class (S := PastV wr) (by kernel_rfl) (by kernel_rfl) (Below.refl _ _).drew ?_
                  repeat (go_big_quiet_step (first | (go_at_call 53; first | (with_reducible exact class_call ST.out _ (W1.out _)) | (with_reducible exact class_call ST.out _ (W2.out _)) | (with_reducible exact class_call ST.out _ (W3.out _)))))
                  refine wpQuiet_nil ?_
                  rintro _ ⟨D, rfl⟩
                  have hD : Below wr.heap.size wr D.world := D.holds
                  go_wp2
                  go_ret
                  exact ⟨by rw [HM.out, E.out]; rfl, HB.out.trans (hD.mono HB.out.size)⟩
                | true =>
                  rw [g1] at W1
                  cases g2 : pnB t n2 with
                  | false =>
                    rw [g2] at W2
                    have E : Hid (allB (fun i => trB n1 n2 n3 (FC i)) n4 = false) := by
                      refine Lib.hid (CN.out ?_)
                      cases e : cnB n1 n2 n3 v t u t0 u0 with
                      | false => rfl
                      | true =>
                        have y := (cnB_iff.1 e).2.1
                        rw [pnB_iff.2 y] at g2; cases g2
                    clear CN CY YES g1 g2
                    refine wp_region_class (S := PastV wr) (by kernel_rfl) (by kernel_rfl) (Below.refl _ _).drew ?_
                    repeat (go_big_quiet_step (first | (go_at_call 53; first | (with_reducible exact class_call ST.out _ (W1.out _)) | (with_reducible exact class_call ST.out _ (W2.out _)) | (with_reducible exact class_call ST.out _ (W3.out _)))))
                    refine wpQuiet_nil ?_
                    rintro _ ⟨D, rfl⟩
                    have hD : Below wr.heap.size wr D.world := D.holds
                    go_wp2
                    go_ret
                    exact ⟨by rw [HM.out, E.out]; rfl, HB.out.trans (hD.mono HB.out.size)⟩
                  | true =>
                    rw [g2] at W2
                    cases g3 : pnB u n3 with
                    | false =>
                      rw [g3] at W3
                      have E : Hid (allB (fun i => trB n1 n2 n3 (FC i)) n4 = false) := by
                        refine Lib.hid (CN.out ?_)
                        cases e : cnB n1 n2 n3 v t u t0 u0 with
                        | false => rfl
                        | true =>
                          have y := (cnB_iff.1 e).2.2.1
                          rw [pnB_iff.2 y] at g3; cases g3
                      clear CN CY YES g1 g2 g3
                      refine wp_region_class (S := PastV wr) (by kernel_rfl) (by kernel_rfl) (Below.refl _ _).drew ?_
                      repeat (go_big_quiet_step (first | (go_at_call 53; first | (with_reducible exact class_call ST.out _ (W1.out _)) | (with_reducible exact class_call ST.out _ (W2.out _)) | (with_reducible exact class_call ST.out _ (W3.out _)))))
                      refine wpQuiet_nil ?_
                      rintro _ ⟨D, rfl⟩
                      have hD : Below wr.heap.size wr D.world := D.holds
                      go_wp2
                      go_ret
                      exact ⟨by rw [HM.out, E.out]; rfl, HB.out.trans (hD.mono HB.out.size)⟩
                    | true =>
                      rw [g3] at W3
                      have bt := (pnB_iff.1 g2).1
                      have bu := (pnB_iff.1 g3).1
                      obtain ⟨bt0, bu0⟩ := T0.out g2 g3
                      by_cases r1 : t < 0
                      · by_cases r2 : t0 < 0
                        · skip
                          by_cases r3 : u < 0
                          · by_cases r4 : u0 < 0
                            · skip
                              have E := Lib.hid (CY.out (cnB_iff.2 ⟨plB_iff.1 g1, pnB_iff.1 g2, pnB_iff.1 g3, ⟨⟨fun _ => by omega, fun _ => by omega⟩, ⟨fun _ => by omega, fun _ => by omega⟩⟩⟩))
                              clear CN CY YES g1 g2 g3
                              refine wp_region_class (S := PastV wr) (by kernel_rfl) (by kernel_rfl) (Below.refl _ _).drew ?_
                              repeat (go_big_quiet_step (first | (go_at_call 53; first | (with_reducible exact class_call ST.out _ (W1.out _)) | (with_reducible exact class_call ST.out _ (W2.out _)) | (with_reducible exact class_call ST.out _ (W3.out _)))))
                              refine wpQuiet_nil ?_
                              rintro _ ⟨D, rfl⟩
                              have hD : Below wr.heap.size wr D.world := D.holds
                              go_wp2
                              go_roundw
                              case rel => exact ⟨k + 1, by go_num, hl3, E.out, BV.out.trans (hD.mono BV.out.size)⟩
                              case measure => simp [intOf]; omega
                            · skip
                              have E : Hid (allB (fun i => trB n1 n2 n3 (FC i)) n4 = false) := by
                                refine Lib.hid (CN.out ?_)
                                cases e : cnB n1 n2 n3 v t u t0 u0 with
                                | false => rfl
                                | true =>
                                  have y := (cnB_iff.1 e).2.2.2.2
                                  omega
                              clear CN CY YES
                              refine wp_region_class (S := PastV wr) (by kernel_rfl) (by kernel_rfl) (Below.refl _ _).drew ?_
                              repeat (go_big_quiet_step (first | (go_at_call 53; first | (with_reducible exact class_call ST.out _ (W1.out _)) | (with_reducible exact class_call ST.out _ (W2.out _)) | (with_reducible exact class_call ST.out _ (W3.out _)))))
                              refine wpQuiet_nil ?_
                              rintro _ ⟨D, rfl⟩
                              have hD : Below wr.heap.size wr D.world := D.holds
                              go_wp2
                              go_ret
                              exact ⟨by rw [HM.out, E.out]; rfl, HB.out.trans (hD.mono HB.out.size)⟩
                          · by_cases r4 : u0 < 0
                            · skip
                              have E : Hid (allB (fun i => trB n1 n2 n3 (FC i)) n4 = false) := by
                                refine Lib.hid (CN.out ?_)
                                cases e : cnB n1 n2 n3 v t u t0 u0 with
                                | false => rfl
                                | true =>
                                  have y := (cnB_iff.1 e).2.2.2.2
                                  omega
                              clear CN CY YES
                              refine wp_region_class (S := PastV wr) (by kernel_rfl) (by kernel_rfl) (Below.refl _ _).drew ?_
                              repeat (go_big_quiet_step (first | (go_at_call 53; first | (with_reducible exact class_call ST.out _ (W1.out _)) | (with_reducible exact class_call ST.out _ (W2.out _)) | (with_reducible exact class_call ST.out _ (W3.out _)))))
                              refine wpQuiet_nil ?_
                              rintro _ ⟨D, rfl⟩
                              have hD : Below wr.heap.size wr D.world := D.holds
                              go_wp2
                              go_ret
                              exact ⟨by rw [HM.out, E.out]; rfl, HB.out.trans (hD.mono HB.out.size)⟩
                            · skip
                              have E := Lib.hid (CY.out (cnB_iff.2 ⟨plB_iff.1 g1, pnB_iff.1 g2, pnB_iff.1 g3, ⟨⟨fun _ => by omega, fun _ => by omega⟩, ⟨fun _ => by omega, fun _ => by omega⟩⟩⟩))
                              clear CN CY YES g1 g2 g3
                              refine wp_region_class (S := PastV wr) (by kernel_rfl) (by kernel_rfl) (Below.refl _ _).drew ?_
                              repeat (go_big_quiet_step (first | (go_at_call 53; first | (with_reducible exact class_call ST.out _ (W1.out _)) | (with_reducible exact class_call ST.out _ (W2.out _)) | (with_reducible exact class_call ST.out _ (W3.out _)))))
                              refine wpQuiet_nil ?_
                              rintro _ ⟨D, rfl⟩
                              have hD : Below wr.heap.size wr D.world := D.holds
                              go_wp2
                              go_roundw
                              case rel => exact ⟨k + 1, by go_num, hl3, E.out, BV.out.trans (hD.mono BV.out.size)⟩
                              case measure => simp [intOf]; omega
                        · skip
                          have E : Hid (allB (fun i => trB n1 n2 n3 (FC i)) n4 = false) := by
                            refine Lib.hid (CN.out ?_)
                            cases e : cnB n1 n2 n3 v t u t0 u0 with
                            | false => rfl
                            | true =>
                              have y := (cnB_iff.1 e).2.2.2.1
                              omega
                          clear CN CY YES
                          refine wp_region_class (S := PastV wr) (by kernel_rfl) (by kernel_rfl) (Below.refl _ _).drew ?_
                          repeat (go_big_quiet_step (first | (go_at_call 53; first | (with_reducible exact class_call ST.out _ (W1.out _)) | (with_reducible exact class_call ST.out _ (W2.out _)) | (with_reducible exact class_call ST.out _ (W3.out _)))))
                          refine wpQuiet_nil ?_
                          rintro _ ⟨D, rfl⟩
                          have hD : Below wr.heap.size wr D.world := D.holds
                          go_wp2
                          go_ret
                          exact ⟨by rw [HM.out, E.out]; rfl, HB.out.trans (hD.mono HB.out.size)⟩
                      · by_cases r2 : t0 < 0
                        · skip
                          have E : Hid (allB (fun i => trB n1 n2 n3 (FC i)) n4 = false) := by
                            refine Lib.hid (CN.out ?_)
                            cases e : cnB n1 n2 n3 v t u t0 u0 with
                            | false => rfl
                            | true =>
                              have y := (cnB_iff.1 e).2.2.2.1
                              omega
                          clear CN CY YES
                          refine wp_region_class (S := PastV wr) (by kernel_rfl) (by kernel_rfl) (Below.refl _ _).drew ?_
                          repeat (go_big_quiet_step (first | (go_at_call 53; first | (with_reducible exact class_call ST.out _ (W1.out _)) | (with_reducible exact class_call ST.out _ (W2.out _)) | (with_reducible exact class_call ST.out _ (W3.out _)))))
                          refine wpQuiet_nil ?_
                          rintro _ ⟨D, rfl⟩
                          have hD : Below wr.heap.size wr D.world := D.holds
                          go_wp2
                          go_ret
                          exact ⟨by rw [HM.out, E.out]; rfl, HB.out.trans (hD.mono HB.out.size)⟩
                        · skip
                          by_cases r3 : u < 0
                          · by_cases r4 : u0 < 0
                            · skip
                              have E := Lib.hid (CY.out (cnB_iff.2 ⟨plB_iff.1 g1, pnB_iff.1 g2, pnB_iff.1 g3, ⟨⟨fun _ => by omega, fun _ => by omega⟩, ⟨fun _ => by omega, fun _ => by omega⟩⟩⟩))
                              clear CN CY YES g1 g2 g3
                              refine wp_region_class (S := PastV wr) (by kernel_rfl) (by kernel_rfl) (Below.refl _ _).drew ?_
                              repeat (go_big_quiet_step (first | (go_at_call 53; first | (with_reducible exact class_call ST.out _ (W1.out _)) | (with_reducible exact class_call ST.out _ (W2.out _)) | (with_reducible exact class_call ST.out _ (W3.out _)))))
                              refine wpQuiet_nil ?_
                              rintro _ ⟨D, rfl⟩
                              have hD : Below wr.heap.size wr D.world := D.holds
                              go_wp2
                              go_roundw
                              case rel => exact ⟨k + 1, by go_num, hl3, E.out, BV.out.trans (hD.mono BV.out.size)⟩
                              case measure => simp [intOf]; omega
                            · skip
                              have E : Hid (allB (fun i => trB n1 n2 n3 (FC i)) n4 = false) := by
                                refine Lib.hid (CN.out ?_)
                                cases e : cnB n1 n2 n3 v t u t0 u0 with
                                | false => rfl
                                | true =>
                                  have y := (cnB_iff.1 e).2.2.2.2
                                  omega
                              clear CN CY YES
                              refine wp_region_class (S := PastV wr) (by kernel_rfl) (by kernel_rfl) (Below.refl _ _).drew ?_
                              repeat (go_big_quiet_step (first | (go_at_call 53; first | (with_reducible exact class_call ST.out _ (W1.out _)) | (with_reducible exact class_call ST.out _ (W2.out _)) | (with_reducible exact class_call ST.out _ (W3.out _)))))
                              refine wpQuiet_nil ?_
                              rintro _ ⟨D, rfl⟩
                              have hD : Below wr.heap.size wr D.world := D.holds
                              go_wp2
                              go_ret
                              exact ⟨by rw [HM.out, E.out]; rfl, HB.out.trans (hD.mono HB.out.size)⟩
                          · by_cases r4 : u0 < 0
                            · skip
                              have E : Hid (allB (fun i => trB n1 n2 n3 (FC i)) n4 = false) := by
                                refine Lib.hid (CN.out ?_)
                                cases e : cnB n1 n2 n3 v t u t0 u0 with
                                | false => rfl
                                | true =>
                                  have y := (cnB_iff.1 e).2.2.2.2
                                  omega
                              clear CN CY YES
                              refine wp_region_class (S := PastV wr) (by kernel_rfl) (by kernel_rfl) (Below.refl _ _).drew ?_
                              repeat (go_big_quiet_step (first | (go_at_call 53; first | (with_reducible exact class_call ST.out _ (W1.out _)) | (with_reducible exact class_call ST.out _ (W2.out _)) | (with_reducible exact class_call ST.out _ (W3.out _)))))
                              refine wpQuiet_nil ?_
                              rintro _ ⟨D, rfl⟩
                              have hD : Below wr.heap.size wr D.world := D.holds
                              go_wp2
                              go_ret
                              exact ⟨by rw [HM.out, E.out]; rfl, HB.out.trans (hD.mono HB.out.size)⟩
                            · skip
                              have E := Lib.hid (CY.out (cnB_iff.2 ⟨plB_iff.1 g1, pnB_iff.1 g2, pnB_iff.1 g3, ⟨⟨fun _ => by omega, fun _ => by omega⟩, ⟨fun _ => by omega, fun _ => by omega⟩⟩⟩))
                              clear CN CY YES g1 g2 g3
                              refine wp_region_class (S := PastV wr) (by kernel_rfl) (by kernel_rfl) (Below.refl _ _).drew ?_
                              repeat (go_big_quiet_step (first | (go_at_call 53; first | (with_reducible exact class_call ST.out _ (W1.out _)) | (with_reducible exact class_call ST.out _ (W2.out _)) | (with_reducible exact class_call ST.out _ (W3.out _)))))
                              refine wpQuiet_nil ?_
                              rintro _ ⟨D, rfl⟩
                              have hD : Below wr.heap.size wr D.world := D.holds
                              go_wp2
                              go_roundw
                              case rel => exact ⟨k + 1, by go_num, hl3, E.out, BV.out.trans (hD.mono BV.out.size)⟩
                              case measure => simp [intOf]; omega
              · obtain rfl : k = 3 := by omega
                have E := Lib.hid (YES.out (trB_iff.2 HS.out))
                have BZ := Lib.hid (BW2.out.trans (BV.out.mono BW2.out.size))
                clear YES NO
                go_wp2
                go_roundw
                case rel => exact ⟨i + 1, by go_num, hlt, E.out, BZ.out⟩
                case measure => simp [intOf]; omega
          · obtain rfl : i = n4 := by omega
            go_wp2
            go_ret
            refine ⟨?_, HB.out⟩
            have e : allB (fun i => trB n1 n2 n3 (FC i)) i = true := allB_yes HR.out
            rw [HM.out, e]; rfl
end Go.Proofs.Ytkheomaihhcokaa
