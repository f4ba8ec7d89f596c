import Derived.Test.YtcnbbanpnoigdaaGreatHi
import Derived.BigRegion
import Derived.BigQuiet
namespace Go.Proofs.YtcnbbanpnoigdaaGreat
open Go.RowKit

theorem tm_in {x y z : Int} (h : (sB 4096 x && (sB 4096 y && sB 4096 z)) = true) : ¬ min (min x y) z < -4096 ∧ ¬ max (max x y) z > 4096 := by
 rw [Bool.and_eq_true, Bool.and_eq_true, sB_iff, sB_iff, sB_iff] at h;unfold SM at h
 omega
theorem tm_out {x y z : Int} (h : (sB 4096 x && (sB 4096 y && sB 4096 z)) = false) : min (min x y) z < -4096 ∨ max (max x y) z > 4096 := by
 rcases Classical.em (min (min x y) z < -4096 ∨ max (max x y) z > 4096) with q | q
 ·exact q
 ·have a : SM 4096 x ∧ SM 4096 y ∧ SM 4096 z := by unfold SM; omega
  rw [sB_iff.2 a.1, sB_iff.2 a.2.1, sB_iff.2 a.2.2] at h
  cases h
set_option maxRecDepth 100000 in
set_option maxHeartbeats 16000000 in
theorem tame_any (pa1 pa2 pa3 pa4 : Option Addr) (n1 n2 n3 n4 c1 c2 c3 c4 : Nat) (FV FT FN FC : Nat → Nat → Int) (w : World) (hm : MsW w pa1 pa2 pa3 pa4 n1 n2 n3 n4 FV FT FN FC) :
  Calls Tryz.prog 17 #[.agg #[.slice pa1 n1 c1, .slice pa2 n2 c2, .slice pa3 n3 c3, .slice pa4 n4 c4]] w fun e w' => e = .returned (.bool (tmB n1 n2 n3 n4 FV FT FN FC)) ∧ Below w.heap.size w w' := by
 have HB := Lib.hid (Below.refl w.heap.size w);have R := Lib.hid hm.1.1;have IS := Lib.hid (fun W (h : Below w.heap.size w W) => mis_any pa1 pa2 pa3 pa4 n1 n2 n3 n4 c1 c2 c3 c4 FV FT FN FC W (hm.keep h));have hn := hm.2.1;clear hm;unfold tmB
 cases hr : msB n1 n2 n3 n4 FV FT FN FC with
 | false =>
  rw [hr] at IS;rw [Bool.and_false];clear hr
  go_enter Tryz.func17, Tryz.ntmps17
  go_upto_region 1 with fail
  have hbm := below_new1 w (.cells #[.slice pa1 n1 c1, .slice pa2 n2 c2, .slice pa3 n3 c3, .slice pa4 n4 c4] 26)
  have zm : (w.alloc (.cells #[.slice pa1 n1 c1, .slice pa2 n2 c2, .slice pa3 n3 c3, .slice pa4 n4 c4] 26)).heap.size = w.heap.size + 1 := by simp
  have HB := Lib.hid hbm;have km := Lib.hid (Lok.new w 26 #[.slice pa1 n1 c1, .slice pa2 n2 c2, .slice pa3 n3 c3, .slice pa4 n4 c4]);clear hbm;generalize w.alloc (.cells #[.slice pa1 n1 c1, .slice pa2 n2 c2, .slice pa3 n3 c3, .slice pa4 n4 c4] 26) = Vm at *;clear zm;have m0 := km.out.cell (i := 0) rfl;have m1 := km.out.cell (i := 1) rfl;have m2 := km.out.cell (i := 2) rfl;have m3 := km.out.cell (i := 3) rfl
  go_wp2_with fail
  clear m0 m1 m2 m3
  (((with_reducible refine (IS.out _ HB.out).mono ?_); rintro e w1 ⟨rfl, hb1⟩); replace HB := Lib.hid (HB.out.trans (hb1.mono HB.out.size)); replace km := Lib.hid (km.out.keep hb1); clear hb1)
  clear IS km
  go_wp2
  go_ret
  exact ⟨rfl, HB.out⟩
 | true =>
  rw [hr] at IS;rw [Bool.and_true];clear hr
  go_enter Tryz.func17, Tryz.ntmps17
  go_upto_region 1 with fail
  have hbm := below_new1 w (.cells #[.slice pa1 n1 c1, .slice pa2 n2 c2, .slice pa3 n3 c3, .slice pa4 n4 c4] 26)
  have zm : (w.alloc (.cells #[.slice pa1 n1 c1, .slice pa2 n2 c2, .slice pa3 n3 c3, .slice pa4 n4 c4] 26)).heap.size = w.heap.size + 1 := by simp
  have HB := Lib.hid hbm;have km := Lib.hid (Lok.new w 26 #[.slice pa1 n1 c1, .slice pa2 n2 c2, .slice pa3 n3 c3, .slice pa4 n4 c4]);clear hbm;generalize w.alloc (.cells #[.slice pa1 n1 c1, .slice pa2 n2 c2, .slice pa3 n3 c3, .slice pa4 n4 c4] 26) = Vm at *;clear zm;have m0 := km.out.cell (i := 0) rfl;have m1 := km.out.cell (i := 1) rfl;have m2 := km.out.cell (i := 2) rfl;have m3 := km.out.cell (i := 3) rfl
  go_wp2_with fail
  clear m0 m1 m2 m3
  (((with_reducible refine (IS.out _ HB.out).mono ?_); rintro e w1 ⟨rfl, hb1⟩); replace HB := Lib.hid (HB.out.trans (hb1.mono HB.out.size)); replace km := Lib.hid (km.out.keep hb1); clear hb1)
  clear IS;have m0 := km.out.cell (i := 0) rfl
  go_wp2_with fail
  clear m0 km
  go_loopw [11] (fun x wr => ∃ k : Nat, x = .int .i64 k ∧ k ≤ n1 ∧ (∀ j, j < k → (sB 4096 (FV j 0) && (sB 4096 (FV j 1) && sB 4096 (FV j 2))) = true) ∧ Below w.heap.size w wr) (fun x _ => n1 - (intOf x).toNat)
  case atStart => exact ⟨0, rfl, Nat.zero_le _, fun j h => absurd h (by omega), HB.out⟩
  case round =>
   clear HB;obtain ⟨k, rfl, hk, hR, hB⟩ := hrel;have HB := Lib.hid hB;have HR := Lib.hid hR;clear hB hR
   by_cases hlt : k < n1
   ·obtain ⟨b, o, rfl, hb, hc⟩ := (R.out.keep HB.out).at hlt
    have c0 := hc k hlt 0 (by omega);have c1 := hc k hlt 1 (by omega);have c2 := hc k hlt 2 (by omega);rw [Nat.add_zero] at c0;rw [← Nat.add_assoc] at c1 c2;have NO : Hid ((sB 4096 (FV k 0) && (sB 4096 (FV k 1) && sB 4096 (FV k 2))) = false → tvB FV n1 = false) := Lib.hid (fun q => allB_no (P := fun i => sB 4096 (FV i 0) && (sB 4096 (FV i 1) && sB 4096 (FV i 2))) hlt q)
    have YES : Hid ((sB 4096 (FV k 0) && (sB 4096 (FV k 1) && sB 4096 (FV k 2))) = true → ∀ j, j < k + 1 → (sB 4096 (FV j 0) && (sB 4096 (FV j 1) && sB 4096 (FV j 2))) = true) := Lib.hid (fun q j hj => by
     by_cases e : j = k
     ·rw [e]; exact q
     ·exact HR.out j (by omega))
    clear hc hb;generalize FV k 0 = x at *;generalize FV k 1 = y at *;generalize FV k 2 = z at *
    have i0 : (0 : Int) ≤ (k : Int) := by omega
    have i1 : (k : Int) < (n1 : Int) := by omega
    have i2 : ((k : Int)).toNat = k := by omega
    have IN := Lib.hid (fun h => tm_in (x := x) (y := y) (z := z) h);have OUT := Lib.hid (fun h => tm_out (x := x) (y := y) (z := z) h);obtain ⟨M, hM⟩ : ∃ M, min (min x y) z = M := ⟨_, rfl⟩;obtain ⟨N, hN⟩ : ∃ N, max (max x y) z = N := ⟨_, rfl⟩;rw [hM, hN] at IN OUT
    go_upto_region 6 with fail
    have hbp := below_new1 wr (.cells #[.int .i64 x, .int .i64 y, .int .i64 z] 57)
    have zp : (wr.alloc (.cells #[.int .i64 x, .int .i64 y, .int .i64 z] 57)).heap.size = wr.heap.size + 1 := by simp
    replace HB := Lib.hid (HB.out.trans (hbp.mono HB.out.size));have kp := Lib.hid (Lok.new wr 57 #[.int .i64 x, .int .i64 y, .int .i64 z]);clear hbp;generalize wr.alloc (.cells #[.int .i64 x, .int .i64 y, .int .i64 z] 57) = Vp at *;clear zp c0 c1 c2;have p0 := kp.out.cell (i := 0) rfl;have p1 := kp.out.cell (i := 1) rfl;have p2 := kp.out.cell (i := 2) rfl
    cases ht : (sB 4096 x && (sB 4096 y && sB 4096 z)) with
    | false =>
     have E := Lib.hid (NO.out ht);have o := OUT.out ht;clear NO YES IN OUT ht
     by_cases d1 : M < -4096
     ·have d2 : decide (M < -4096) = true := decide_eq_true d1
      clear o
      go_wp2
      go_ret
      exact ⟨by rw [E.out]; rfl, HB.out⟩
     ·have d2 : decide (M < -4096) = false := decide_eq_false d1
      have d3 : 4096 < N := by omega
      have d4 : decide (4096 < N) = true := decide_eq_true d3;clear o
      go_wp2
      go_ret
      exact ⟨by rw [E.out]; rfl, HB.out⟩
    | true =>
     have E := Lib.hid (YES.out ht);have o := IN.out ht;clear NO YES IN OUT ht;have d1 := o.1;have d2 : decide (M < -4096) = false := decide_eq_false d1
     have d3 : ¬ 4096 < N := by have := o.2; omega
     have d4 : decide (4096 < N) = false := decide_eq_false d3;clear o
     go_wp2
     go_roundw
     case rel => exact ⟨k + 1, by go_num, hlt, E.out, HB.out⟩
     case measure => simp [intOf]; omega
   ·obtain rfl : k = n1 := by omega
    have e : Hid (tvB FV k = true) := Lib.hid (allB_yes HR.out)
    go_wp2
    go_ret
    exact ⟨by rw [e.out]; rfl, HB.out⟩
def mshC (pa1 pa2 pa3 pa4 : Option Addr) (n1 n2 n3 n4 c1 c2 c3 c4 : Nat) : Array Value := #[.slice pa1 n1 c1, .slice pa2 n2 c2, .slice pa3 n3 c3, .slice pa4 n4 c4]
set_option maxRecDepth 100000 in
set_option maxHeartbeats 4000000 in
theorem has_any (pa1 pa2 pa3 pa4 : Option Addr) (n1 n2 n3 n4 c1 c2 c3 c4 : Nat) (gl : Nat) (i : Int) (w : World) (hk : Lok w gl 50 (mshC pa1 pa2 pa3 pa4 n1 n2 n3 n4 c1 c2 c3 c4)) :
  Calls Tryz.prog 22 #[.pointer (some ⟨gl, 0, none⟩), .int .i64 i] w fun e w' => e = .returned (.bool (plB i n4)) ∧ Below w.heap.size w w' := by
 have HB := Lib.hid (Below.refl w.heap.size w);unfold mshC at hk;have m3 := hk.cell (i := 3) rfl;clear hk
 by_cases p0 : 0 ≤ i
 ·have d0 : decide (0 ≤ i) = true := decide_eq_true p0
  rw [plB_ge p0]
  by_cases p1 : i < n4
  ·have d1 : decide (i < (n4 : Int)) = true := decide_eq_true p1
   rw [d1]
   go_enter Tryz.func22, Tryz.ntmps22
   go_wp2

   go_ret
   exact ⟨rfl, HB.out⟩
  ·have d1 : decide (i < (n4 : Int)) = false := decide_eq_false p1
   rw [d1]
   go_enter Tryz.func22, Tryz.ntmps22
   go_wp2
   go_ret
   exact ⟨rfl, HB.out⟩
 ·have d0 : decide (0 ≤ i) = false := decide_eq_false p0
  rw [plB_no p0]
  go_enter Tryz.func22, Tryz.ntmps22
  go_wp2
  go_ret
  exact ⟨rfl, HB.out⟩
end Go.Proofs.YtcnbbanpnoigdaaGreat
