import Derived.Test.YtcnbbanpnoigdaaGreatHg
import Derived.Test.YtcnbbanpnoigdaaGreatHd
import Derived.Test.YtcnbbanpnoigdaaGreatHb
import Derived.Maps.AppendAt
import Derived.OwnWalk
import Derived.Laws.AppendOwnNone
import Derived.Test.YtcnbbanpnoigdaaGreatBase
import Derived.Test.YtcnbbanpnoigdaaGreatHc
import Derived.Test.YtcnbbanpnoigdaaGreatHa
import Derived.Test.YtcnbbanpnoigdaaGreatHf
namespace Go.Proofs.YtcnbbanpnoigdaaGreat
open Go.RowKit

theorem nxB_same (F : Nat → Nat → Int) (i : Nat) : nxB F i i = false := by unfold nxB; simp
theorem nxB_other {F : Nat → Nat → Int} {i k : Nat} (h : ¬ i = k) : nxB F i k = nxE (F i 0) (F i 3) (F i 6) (F k 0) (F k 3) (F k 6) := by unfold nxB; rw [show (i != k) = true from by simp [h], Bool.true_and]
set_option maxRecDepth 100000 in
set_option maxHeartbeats 16000000 in
theorem rnext_any (pa1 pa2 pa3 pa4 : Option Addr) (n1 n2 n3 n4 c1 c2 c3 c4 : Nat) (FV FT FN FC : Nat → Nat → Int) (i k : Nat) (w : World) (hm : MsW w pa1 pa2 pa3 pa4 n1 n2 n3 n4 FV FT FN FC) (hi : i < n4) (hk : k < n4) :
  Calls Tryz.prog 59 #[.agg #[.slice pa1 n1 c1, .slice pa2 n2 c2, .slice pa3 n3 c3, .slice pa4 n4 c4], .int .i64 i, .int .i64 k] w fun e' w' => e' = .returned (.bool (nxB FC i k)) ∧ Below w.heap.size w w' := by
 have HB := Lib.hid (Below.refl w.heap.size w);have M := Lib.hid hm;have bn4 := hm.2.2.2.2;clear hm
 by_cases hik : i = k
 ·subst hik
  rw [nxB_same]
  go_enter Tryz.func59, Tryz.ntmps59
  go_upto_region 1 with fail
  have hbm := below_new1 w (.cells #[.slice pa1 n1 c1, .slice pa2 n2 c2, .slice pa3 n3 c3, .slice pa4 n4 c4] 26)
  have zm : (w.alloc (.cells #[.slice pa1 n1 c1, .slice pa2 n2 c2, .slice pa3 n3 c3, .slice pa4 n4 c4] 26)).heap.size = w.heap.size + 1 := by simp
  have HB := Lib.hid hbm;have km := Lib.hid (Lok.new w 26 #[.slice pa1 n1 c1, .slice pa2 n2 c2, .slice pa3 n3 c3, .slice pa4 n4 c4]);clear hbm;generalize w.alloc (.cells #[.slice pa1 n1 c1, .slice pa2 n2 c2, .slice pa3 n3 c3, .slice pa4 n4 c4] 26) = Vm at *;clear zm;clear km
  go_wp2
  go_ret
  exact ⟨rfl, HB.out⟩
 ·rw [nxB_other hik]
  have hik2 : ¬ (i : Int) = (k : Int) := by omega
  have R := Lib.hid M.out.1.2.2.2;clear M;obtain ⟨b, o, rfl, hb, hc⟩ := R.out.at hi;have d0 := hc i hi 0 (by omega);have d1 := hc i hi 1 (by omega);have d2 := hc i hi 2 (by omega);have d3 := hc i hi 3 (by omega);have d4 := hc i hi 4 (by omega);have d5 := hc i hi 5 (by omega);have d6 := hc i hi 6 (by omega);have d7 := hc i hi 7 (by omega);have d8 := hc i hi 8 (by omega);rw [Nat.add_zero] at d0;rw [← Nat.add_assoc] at d1 d2 d3 d4 d5 d6 d7 d8;have e0 := hc k hk 0 (by omega);have e1 := hc k hk 1 (by omega);have e2 := hc k hk 2 (by omega);have e3 := hc k hk 3 (by omega);have e4 := hc k hk 4 (by omega);have e5 := hc k hk 5 (by omega);have e6 := hc k hk 6 (by omega);have e7 := hc k hk 7 (by omega);have e8 := hc k hk 8 (by omega);rw [Nat.add_zero] at e0;rw [← Nat.add_assoc] at e1 e2 e3 e4 e5 e6 e7 e8;generalize FC i 0 = x0 at *;generalize FC i 1 = x1 at *;generalize FC i 2 = x2 at *;generalize FC i 3 = x3 at *;generalize FC i 4 = x4 at *;generalize FC i 5 = x5 at *;generalize FC i 6 = x6 at *;generalize FC i 7 = x7 at *;generalize FC i 8 = x8 at *;generalize FC k 0 = y0 at *;generalize FC k 1 = y1 at *;generalize FC k 2 = y2 at *;generalize FC k 3 = y3 at *;generalize FC k 4 = y4 at *;generalize FC k 5 = y5 at *;generalize FC k 6 = y6 at *;generalize FC k 7 = y7 at *;generalize FC k 8 = y8 at *;clear hc R;have H := Lib.hid (fun a b W => rhas_any y0 y1 y2 y3 y4 y5 y6 y7 y8 a b W);obtain ⟨z, hz⟩ : ∃ z, z = nxE x0 x3 x6 y0 y3 y6 := ⟨_, rfl⟩;rw [← hz];have HZ := Lib.hid hz;clear hz
  have i0 : (0 : Int) ≤ (i : Int) := by omega
  have i1 : (i : Int) < (n4 : Int) := by omega
  have i2 : ((i : Int)).toNat = i := by omega
  have k0 : (0 : Int) ≤ (k : Int) := by omega
  have k1 : (k : Int) < (n4 : Int) := by omega
  have k2 : ((k : Int)).toNat = k := by omega
  go_enter Tryz.func59, Tryz.ntmps59
  go_upto_region 1 with fail
  have hbm := below_new1 w (.cells #[.slice pa1 n1 c1, .slice pa2 n2 c2, .slice pa3 n3 c3, .slice (some ⟨b, o, none⟩) n4 c4] 26)
  have zm : (w.alloc (.cells #[.slice pa1 n1 c1, .slice pa2 n2 c2, .slice pa3 n3 c3, .slice (some ⟨b, o, none⟩) n4 c4] 26)).heap.size = w.heap.size + 1 := by simp
  have HB := Lib.hid hbm;have km := Lib.hid (Lok.new w 26 #[.slice pa1 n1 c1, .slice pa2 n2 c2, .slice pa3 n3 c3, .slice (some ⟨b, o, none⟩) n4 c4]);clear hbm;generalize w.alloc (.cells #[.slice pa1 n1 c1, .slice pa2 n2 c2, .slice pa3 n3 c3, .slice (some ⟨b, o, none⟩) n4 c4] 26) = Vm at *;clear zm;have m3 := km.out.cell (i := 3) rfl;replace d0 := keepc HB.out d0;replace d1 := keepc HB.out d1;replace d2 := keepc HB.out d2;replace d3 := keepc HB.out d3;replace d4 := keepc HB.out d4;replace d5 := keepc HB.out d5;replace d6 := keepc HB.out d6;replace d7 := keepc HB.out d7;replace d8 := keepc HB.out d8;replace e0 := keepc HB.out e0;replace e1 := keepc HB.out e1;replace e2 := keepc HB.out e2;replace e3 := keepc HB.out e3;replace e4 := keepc HB.out e4;replace e5 := keepc HB.out e5;replace e6 := keepc HB.out e6;replace e7 := keepc HB.out e7;replace e8 := keepc HB.out e8
  go_upto_region 4 with fail
  have hbq := below_new1 Vm (.cells #[.int .i64 x0, .int .i64 x1, .int .i64 x2, .int .i64 x3, .int .i64 x4, .int .i64 x5, .int .i64 x6, .int .i64 x7, .int .i64 x8] 88);replace e0 := keepc hbq e0;replace e1 := keepc hbq e1;replace e2 := keepc hbq e2;replace e3 := keepc hbq e3;replace e4 := keepc hbq e4;replace e5 := keepc hbq e5;replace e6 := keepc hbq e6;replace e7 := keepc hbq e7;replace e8 := keepc hbq e8;clear hbq;have hbp := below_new1 Vm (.cells #[.int .i64 x0, .int .i64 x1, .int .i64 x2, .int .i64 x3, .int .i64 x4, .int .i64 x5, .int .i64 x6, .int .i64 x7, .int .i64 x8] 88);replace km := Lib.hid (km.out.keep hbp)
  have zp : (Vm.alloc (.cells #[.int .i64 x0, .int .i64 x1, .int .i64 x2, .int .i64 x3, .int .i64 x4, .int .i64 x5, .int .i64 x6, .int .i64 x7, .int .i64 x8] 88)).heap.size = Vm.heap.size + 1 := by simp
  replace HB := Lib.hid (HB.out.trans (hbp.mono HB.out.size));have kp := Lib.hid (Lok.new Vm 88 #[.int .i64 x0, .int .i64 x1, .int .i64 x2, .int .i64 x3, .int .i64 x4, .int .i64 x5, .int .i64 x6, .int .i64 x7, .int .i64 x8]);clear hbp;generalize Vm.alloc (.cells #[.int .i64 x0, .int .i64 x1, .int .i64 x2, .int .i64 x3, .int .i64 x4, .int .i64 x5, .int .i64 x6, .int .i64 x7, .int .i64 x8] 88) = Vp at *;clear zp m3 d0 d1 d2 d3 d4 d5 d6 d7 d8 i0 i1 i2;have HB0 := HB;have km0 := km;have kp0 := kp;clear HB km kp;have E0 := Lib.hid e0;clear e0;have E1 := Lib.hid e1;clear e1;have E2 := Lib.hid e2;clear e2;have E3 := Lib.hid e3;clear e3;have E4 := Lib.hid e4;clear e4;have E5 := Lib.hid e5;clear e5;have E6 := Lib.hid e6;clear e6;have E7 := Lib.hid e7;clear e7;have E8 := Lib.hid e8;clear e8
  go_wp2_with fail
  go_loopw [8] (fun x wr => ∃ q : Nat, x = .int .i64 q ∧ q ≤ 3 ∧ (0 < q → ((x0 != x3) && hasB y0 y3 y6 x0 x3) = false) ∧ (1 < q → ((x3 != x6) && hasB y0 y3 y6 x3 x6) = false) ∧ (2 < q → ((x6 != x0) && hasB y0 y3 y6 x6 x0) = false) ∧ Below Vp.heap.size Vp wr) (fun x _ => 3 - (intOf x).toNat)
  case atStart => exact ⟨0, rfl, by omega, fun h => absurd h (by omega), fun h => absurd h (by omega), fun h => absurd h (by omega), Below.refl _ _⟩
  case round =>
   obtain ⟨q, rfl, hq, A0, A1, A2, hB⟩ := hrel;have A := Lib.hid (And.intro A0 (And.intro A1 A2));clear A0 A1 A2;have HB := Lib.hid (HB0.out.trans (hB.mono HB0.out.size));have km := Lib.hid (km0.out.keep hB);have kp := Lib.hid (kp0.out.keep hB);have B0 := Lib.hid hB
   rcases (show q = 0 ∨ q = 1 ∨ q = 2 ∨ q = 3 by omega) with rfl | rfl | rfl | rfl
   ·skip
    by_cases h0 : x0 = x3
    ·have E : Hid (((x0 != x3) && hasB y0 y3 y6 x0 x3) = false) := Lib.hid (by rw [h0]; simp)
     clear HZ;subst h0;have m3 : ∀ D : Of (PastV wr), _ := fun D => (km.out.keep (show Below wr.heap.size wr D.world from D.holds)).cell (i := 3) rfl;have p0 : ∀ D : Of (PastV wr), _ := fun D => (kp.out.keep (show Below wr.heap.size wr D.world from D.holds)).cell (i := 0) rfl;have p3 : ∀ D : Of (PastV wr), _ := fun D => (kp.out.keep (show Below wr.heap.size wr D.world from D.holds)).cell (i := 3) rfl;have p6 : ∀ D : Of (PastV wr), _ := fun D => (kp.out.keep (show Below wr.heap.size wr D.world from D.holds)).cell (i := 6) rfl;have e0 : ∀ D : Of (PastV wr), _ := fun D => keepc (show Below wr.heap.size wr D.world from D.holds) (keepc hB E0.out);have e1 : ∀ D : Of (PastV wr), _ := fun D => keepc (show Below wr.heap.size wr D.world from D.holds) (keepc hB E1.out);have e2 : ∀ D : Of (PastV wr), _ := fun D => keepc (show Below wr.heap.size wr D.world from D.holds) (keepc hB E2.out);have e3 : ∀ D : Of (PastV wr), _ := fun D => keepc (show Below wr.heap.size wr D.world from D.holds) (keepc hB E3.out);have e4 : ∀ D : Of (PastV wr), _ := fun D => keepc (show Below wr.heap.size wr D.world from D.holds) (keepc hB E4.out);have e5 : ∀ D : Of (PastV wr), _ := fun D => keepc (show Below wr.heap.size wr D.world from D.holds) (keepc hB E5.out);have e6 : ∀ D : Of (PastV wr), _ := fun D => keepc (show Below wr.heap.size wr D.world from D.holds) (keepc hB E6.out);have e7 : ∀ D : Of (PastV wr), _ := fun D => keepc (show Below wr.heap.size wr D.world from D.holds) (keepc hB E7.out);have e8 : ∀ D : Of (PastV wr), _ := fun D => keepc (show Below wr.heap.size wr D.world from D.holds) (keepc hB E8.out);have ST := Lib.hid (pastV_stays wr);have ne : Nonempty (Of (PastV wr)) := ⟨⟨wr, Below.refl _ _⟩⟩
     go_upto_region 7 with fail
     refine wp_region_class (S := PastV wr) (by kernel_rfl) (by kernel_rfl) (Below.refl _ _).drew ?_
     repeat (go_big_quiet_step (first | (go_at_call 84; first | (with_reducible exact class_call ST.out _ (H.out _ _ _)))))
     refine wpQuiet_nil ?_
     rintro _ ⟨D, rfl⟩
     have hD : Below wr.heap.size wr D.world := D.holds
     go_wp2
     go_roundw
     case rel => exact ⟨1, by go_num, by omega, fun _ => by first | exact E.out | simp, fun h => absurd h (by omega), fun h => absurd h (by omega), B0.out.trans (hD.mono B0.out.size)⟩
     case measure => simp [intOf]
    ·have e0' : (x0 == x3) = false := by rw [beq_eq_false_iff_ne]; exact h0
     have n0 : (x0 != x3) = true := by rw [bne, e0']; rfl
     have HC := Lib.hid (fun W => H.out x0 x3 W)
     cases hh : hasB y0 y3 y6 x0 x3 with
     | false =>
      rw [hh] at HC;have E : Hid (((x0 != x3) && hasB y0 y3 y6 x0 x3) = false) := Lib.hid (by rw [hh, Bool.and_false]);clear HZ hh;have m3 : ∀ D : Of (PastV wr), _ := fun D => (km.out.keep (show Below wr.heap.size wr D.world from D.holds)).cell (i := 3) rfl;have p0 : ∀ D : Of (PastV wr), _ := fun D => (kp.out.keep (show Below wr.heap.size wr D.world from D.holds)).cell (i := 0) rfl;have p3 : ∀ D : Of (PastV wr), _ := fun D => (kp.out.keep (show Below wr.heap.size wr D.world from D.holds)).cell (i := 3) rfl;have p6 : ∀ D : Of (PastV wr), _ := fun D => (kp.out.keep (show Below wr.heap.size wr D.world from D.holds)).cell (i := 6) rfl;have e0 : ∀ D : Of (PastV wr), _ := fun D => keepc (show Below wr.heap.size wr D.world from D.holds) (keepc hB E0.out);have e1 : ∀ D : Of (PastV wr), _ := fun D => keepc (show Below wr.heap.size wr D.world from D.holds) (keepc hB E1.out);have e2 : ∀ D : Of (PastV wr), _ := fun D => keepc (show Below wr.heap.size wr D.world from D.holds) (keepc hB E2.out);have e3 : ∀ D : Of (PastV wr), _ := fun D => keepc (show Below wr.heap.size wr D.world from D.holds) (keepc hB E3.out);have e4 : ∀ D : Of (PastV wr), _ := fun D => keepc (show Below wr.heap.size wr D.world from D.holds) (keepc hB E4.out);have e5 : ∀ D : Of (PastV wr), _ := fun D => keepc (show Below wr.heap.size wr D.world from D.holds) (keepc hB E5.out);have e6 : ∀ D : Of (PastV wr), _ := fun D => keepc (show Below wr.heap.size wr D.world from D.holds) (keepc hB E6.out);have e7 : ∀ D : Of (PastV wr), _ := fun D => keepc (show Below wr.heap.size wr D.world from D.holds) (keepc hB E7.out);have e8 : ∀ D : Of (PastV wr), _ := fun D => keepc (show Below wr.heap.size wr D.world from D.holds) (keepc hB E8.out);have ST := Lib.hid (pastV_stays wr);have ne : Nonempty (Of (PastV wr)) := ⟨⟨wr, Below.refl _ _⟩⟩
      go_upto_region 7 with fail
      refine wp_region_class (S := PastV wr) (by kernel_rfl) (by kernel_rfl) (Below.refl _ _).drew ?_
      repeat (go_big_quiet_step (first | (go_at_call 84; first | (with_reducible exact class_call ST.out _ (HC.out _)))))
      refine wpQuiet_nil ?_
      rintro _ ⟨D, rfl⟩
      have hD : Below wr.heap.size wr D.world := D.holds
      go_wp2
      go_roundw
      case rel => exact ⟨1, by go_num, by omega, fun _ => by first | exact E.out | simp, fun h => absurd h (by omega), fun h => absurd h (by omega), B0.out.trans (hD.mono B0.out.size)⟩
      case measure => simp [intOf]
     | true =>
      rw [hh] at HC;have E : Hid (z = true) := Lib.hid (by rw [HZ.out]; unfold nxE; rw [n0, hh]; rfl);clear HZ A hh;have m3 : ∀ D : Of (PastV wr), _ := fun D => (km.out.keep (show Below wr.heap.size wr D.world from D.holds)).cell (i := 3) rfl;have p0 : ∀ D : Of (PastV wr), _ := fun D => (kp.out.keep (show Below wr.heap.size wr D.world from D.holds)).cell (i := 0) rfl;have p3 : ∀ D : Of (PastV wr), _ := fun D => (kp.out.keep (show Below wr.heap.size wr D.world from D.holds)).cell (i := 3) rfl;have p6 : ∀ D : Of (PastV wr), _ := fun D => (kp.out.keep (show Below wr.heap.size wr D.world from D.holds)).cell (i := 6) rfl;have e0 : ∀ D : Of (PastV wr), _ := fun D => keepc (show Below wr.heap.size wr D.world from D.holds) (keepc hB E0.out);have e1 : ∀ D : Of (PastV wr), _ := fun D => keepc (show Below wr.heap.size wr D.world from D.holds) (keepc hB E1.out);have e2 : ∀ D : Of (PastV wr), _ := fun D => keepc (show Below wr.heap.size wr D.world from D.holds) (keepc hB E2.out);have e3 : ∀ D : Of (PastV wr), _ := fun D => keepc (show Below wr.heap.size wr D.world from D.holds) (keepc hB E3.out);have e4 : ∀ D : Of (PastV wr), _ := fun D => keepc (show Below wr.heap.size wr D.world from D.holds) (keepc hB E4.out);have e5 : ∀ D : Of (PastV wr), _ := fun D => keepc (show Below wr.heap.size wr D.world from D.holds) (keepc hB E5.out);have e6 : ∀ D : Of (PastV wr), _ := fun D => keepc (show Below wr.heap.size wr D.world from D.holds) (keepc hB E6.out);have e7 : ∀ D : Of (PastV wr), _ := fun D => keepc (show Below wr.heap.size wr D.world from D.holds) (keepc hB E7.out);have e8 : ∀ D : Of (PastV wr), _ := fun D => keepc (show Below wr.heap.size wr D.world from D.holds) (keepc hB E8.out);have ST := Lib.hid (pastV_stays wr);have ne : Nonempty (Of (PastV wr)) := ⟨⟨wr, Below.refl _ _⟩⟩
      go_upto_region 7 with fail
      refine wp_region_class (S := PastV wr) (by kernel_rfl) (by kernel_rfl) (Below.refl _ _).drew ?_
      repeat (go_big_quiet_step (first | (go_at_call 84; first | (with_reducible exact class_call ST.out _ (HC.out _)))))
      refine wpQuiet_nil ?_
      rintro _ ⟨D, rfl⟩
      have hD : Below wr.heap.size wr D.world := D.holds
      go_wp2
      go_ret
      exact ⟨by rw [E.out]; rfl, HB.out.trans (hD.mono HB.out.size)⟩
   ·skip
    by_cases h0 : x3 = x6
    ·have E : Hid (((x3 != x6) && hasB y0 y3 y6 x3 x6) = false) := Lib.hid (by rw [h0]; simp)
     clear HZ;subst h0;have m3 : ∀ D : Of (PastV wr), _ := fun D => (km.out.keep (show Below wr.heap.size wr D.world from D.holds)).cell (i := 3) rfl;have p0 : ∀ D : Of (PastV wr), _ := fun D => (kp.out.keep (show Below wr.heap.size wr D.world from D.holds)).cell (i := 0) rfl;have p3 : ∀ D : Of (PastV wr), _ := fun D => (kp.out.keep (show Below wr.heap.size wr D.world from D.holds)).cell (i := 3) rfl;have p6 : ∀ D : Of (PastV wr), _ := fun D => (kp.out.keep (show Below wr.heap.size wr D.world from D.holds)).cell (i := 6) rfl;have e0 : ∀ D : Of (PastV wr), _ := fun D => keepc (show Below wr.heap.size wr D.world from D.holds) (keepc hB E0.out);have e1 : ∀ D : Of (PastV wr), _ := fun D => keepc (show Below wr.heap.size wr D.world from D.holds) (keepc hB E1.out);have e2 : ∀ D : Of (PastV wr), _ := fun D => keepc (show Below wr.heap.size wr D.world from D.holds) (keepc hB E2.out);have e3 : ∀ D : Of (PastV wr), _ := fun D => keepc (show Below wr.heap.size wr D.world from D.holds) (keepc hB E3.out);have e4 : ∀ D : Of (PastV wr), _ := fun D => keepc (show Below wr.heap.size wr D.world from D.holds) (keepc hB E4.out);have e5 : ∀ D : Of (PastV wr), _ := fun D => keepc (show Below wr.heap.size wr D.world from D.holds) (keepc hB E5.out);have e6 : ∀ D : Of (PastV wr), _ := fun D => keepc (show Below wr.heap.size wr D.world from D.holds) (keepc hB E6.out);have e7 : ∀ D : Of (PastV wr), _ := fun D => keepc (show Below wr.heap.size wr D.world from D.holds) (keepc hB E7.out);have e8 : ∀ D : Of (PastV wr), _ := fun D => keepc (show Below wr.heap.size wr D.world from D.holds) (keepc hB E8.out);have ST := Lib.hid (pastV_stays wr);have ne : Nonempty (Of (PastV wr)) := ⟨⟨wr, Below.refl _ _⟩⟩
     go_upto_region 7 with fail
     refine wp_region_class (S := PastV wr) (by kernel_rfl) (by kernel_rfl) (Below.refl _ _).drew ?_
     repeat (go_big_quiet_step (first | (go_at_call 84; first | (with_reducible exact class_call ST.out _ (H.out _ _ _)))))
     refine wpQuiet_nil ?_
     rintro _ ⟨D, rfl⟩
     have hD : Below wr.heap.size wr D.world := D.holds
     go_wp2
     go_roundw
     case rel => exact ⟨2, by go_num, by omega, fun _ => A.out.1 (by omega), fun _ => by first | exact E.out | simp, fun h => absurd h (by omega), B0.out.trans (hD.mono B0.out.size)⟩
     case measure => simp [intOf]
    ·have e0' : (x3 == x6) = false := by rw [beq_eq_false_iff_ne]; exact h0
     have n0 : (x3 != x6) = true := by rw [bne, e0']; rfl
     have HC := Lib.hid (fun W => H.out x3 x6 W)
     cases hh : hasB y0 y3 y6 x3 x6 with
     | false =>
      rw [hh] at HC;have E : Hid (((x3 != x6) && hasB y0 y3 y6 x3 x6) = false) := Lib.hid (by rw [hh, Bool.and_false]);clear HZ hh;have m3 : ∀ D : Of (PastV wr), _ := fun D => (km.out.keep (show Below wr.heap.size wr D.world from D.holds)).cell (i := 3) rfl;have p0 : ∀ D : Of (PastV wr), _ := fun D => (kp.out.keep (show Below wr.heap.size wr D.world from D.holds)).cell (i := 0) rfl;have p3 : ∀ D : Of (PastV wr), _ := fun D => (kp.out.keep (show Below wr.heap.size wr D.world from D.holds)).cell (i := 3) rfl;have p6 : ∀ D : Of (PastV wr), _ := fun D => (kp.out.keep (show Below wr.heap.size wr D.world from D.holds)).cell (i := 6) rfl;have e0 : ∀ D : Of (PastV wr), _ := fun D => keepc (show Below wr.heap.size wr D.world from D.holds) (keepc hB E0.out);have e1 : ∀ D : Of (PastV wr), _ := fun D => keepc (show Below wr.heap.size wr D.world from D.holds) (keepc hB E1.out);have e2 : ∀ D : Of (PastV wr), _ := fun D => keepc (show Below wr.heap.size wr D.world from D.holds) (keepc hB E2.out);have e3 : ∀ D : Of (PastV wr), _ := fun D => keepc (show Below wr.heap.size wr D.world from D.holds) (keepc hB E3.out);have e4 : ∀ D : Of (PastV wr), _ := fun D => keepc (show Below wr.heap.size wr D.world from D.holds) (keepc hB E4.out);have e5 : ∀ D : Of (PastV wr), _ := fun D => keepc (show Below wr.heap.size wr D.world from D.holds) (keepc hB E5.out);have e6 : ∀ D : Of (PastV wr), _ := fun D => keepc (show Below wr.heap.size wr D.world from D.holds) (keepc hB E6.out);have e7 : ∀ D : Of (PastV wr), _ := fun D => keepc (show Below wr.heap.size wr D.world from D.holds) (keepc hB E7.out);have e8 : ∀ D : Of (PastV wr), _ := fun D => keepc (show Below wr.heap.size wr D.world from D.holds) (keepc hB E8.out);have ST := Lib.hid (pastV_stays wr);have ne : Nonempty (Of (PastV wr)) := ⟨⟨wr, Below.refl _ _⟩⟩
      go_upto_region 7 with fail
      refine wp_region_class (S := PastV wr) (by kernel_rfl) (by kernel_rfl) (Below.refl _ _).drew ?_
      repeat (go_big_quiet_step (first | (go_at_call 84; first | (with_reducible exact class_call ST.out _ (HC.out _)))))
      refine wpQuiet_nil ?_
      rintro _ ⟨D, rfl⟩
      have hD : Below wr.heap.size wr D.world := D.holds
      go_wp2
      go_roundw
      case rel => exact ⟨2, by go_num, by omega, fun _ => A.out.1 (by omega), fun _ => by first | exact E.out | simp, fun h => absurd h (by omega), B0.out.trans (hD.mono B0.out.size)⟩
      case measure => simp [intOf]
     | true =>
      rw [hh] at HC;have E : Hid (z = true) := Lib.hid (by rw [HZ.out]; unfold nxE; rw [n0, hh, Bool.true_and, Bool.true_or, Bool.or_true]);clear HZ A hh;have m3 : ∀ D : Of (PastV wr), _ := fun D => (km.out.keep (show Below wr.heap.size wr D.world from D.holds)).cell (i := 3) rfl;have p0 : ∀ D : Of (PastV wr), _ := fun D => (kp.out.keep (show Below wr.heap.size wr D.world from D.holds)).cell (i := 0) rfl;have p3 : ∀ D : Of (PastV wr), _ := fun D => (kp.out.keep (show Below wr.heap.size wr D.world from D.holds)).cell (i := 3) rfl;have p6 : ∀ D : Of (PastV wr), _ := fun D => (kp.out.keep (show Below wr.heap.size wr D.world from D.holds)).cell (i := 6) rfl;have e0 : ∀ D : Of (PastV wr), _ := fun D => keepc (show Below wr.heap.size wr D.world from D.holds) (keepc hB E0.out);have e1 : ∀ D : Of (PastV wr), _ := fun D => keepc (show Below wr.heap.size wr D.world from D.holds) (keepc hB E1.out);have e2 : ∀ D : Of (PastV wr), _ := fun D => keepc (show Below wr.heap.size wr D.world from D.holds) (keepc hB E2.out);have e3 : ∀ D : Of (PastV wr), _ := fun D => keepc (show Below wr.heap.size wr D.world from D.holds) (keepc hB E3.out);have e4 : ∀ D : Of (PastV wr), _ := fun D => keepc (show Below wr.heap.size wr D.world from D.holds) (keepc hB E4.out);have e5 : ∀ D : Of (PastV wr), _ := fun D => keepc (show Below wr.heap.size wr D.world from D.holds) (keepc hB E5.out);have e6 : ∀ D : Of (PastV wr), _ := fun D => keepc (show Below wr.heap.size wr D.world from D.holds) (keepc hB E6.out);have e7 : ∀ D : Of (PastV wr), _ := fun D => keepc (show Below wr.heap.size wr D.world from D.holds) (keepc hB E7.out);have e8 : ∀ D : Of (PastV wr), _ := fun D => keepc (show Below wr.heap.size wr D.world from D.holds) (keepc hB E8.out);have ST := Lib.hid (pastV_stays wr);have ne : Nonempty (Of (PastV wr)) := ⟨⟨wr, Below.refl _ _⟩⟩
      go_upto_region 7 with fail
      refine wp_region_class (S := PastV wr) (by kernel_rfl) (by kernel_rfl) (Below.refl _ _).drew ?_
      repeat (go_big_quiet_step (first | (go_at_call 84; first | (with_reducible exact class_call ST.out _ (HC.out _)))))
      refine wpQuiet_nil ?_
      rintro _ ⟨D, rfl⟩
      have hD : Below wr.heap.size wr D.world := D.holds
      go_wp2
      go_ret
      exact ⟨by rw [E.out]; rfl, HB.out.trans (hD.mono HB.out.size)⟩
   ·skip
    by_cases h0 : x6 = x0
    ·have E : Hid (((x6 != x0) && hasB y0 y3 y6 x6 x0) = false) := Lib.hid (by rw [h0]; simp)
     clear HZ;subst h0;have m3 : ∀ D : Of (PastV wr), _ := fun D => (km.out.keep (show Below wr.heap.size wr D.world from D.holds)).cell (i := 3) rfl;have p0 : ∀ D : Of (PastV wr), _ := fun D => (kp.out.keep (show Below wr.heap.size wr D.world from D.holds)).cell (i := 0) rfl;have p3 : ∀ D : Of (PastV wr), _ := fun D => (kp.out.keep (show Below wr.heap.size wr D.world from D.holds)).cell (i := 3) rfl;have p6 : ∀ D : Of (PastV wr), _ := fun D => (kp.out.keep (show Below wr.heap.size wr D.world from D.holds)).cell (i := 6) rfl;have e0 : ∀ D : Of (PastV wr), _ := fun D => keepc (show Below wr.heap.size wr D.world from D.holds) (keepc hB E0.out);have e1 : ∀ D : Of (PastV wr), _ := fun D => keepc (show Below wr.heap.size wr D.world from D.holds) (keepc hB E1.out);have e2 : ∀ D : Of (PastV wr), _ := fun D => keepc (show Below wr.heap.size wr D.world from D.holds) (keepc hB E2.out);have e3 : ∀ D : Of (PastV wr), _ := fun D => keepc (show Below wr.heap.size wr D.world from D.holds) (keepc hB E3.out);have e4 : ∀ D : Of (PastV wr), _ := fun D => keepc (show Below wr.heap.size wr D.world from D.holds) (keepc hB E4.out);have e5 : ∀ D : Of (PastV wr), _ := fun D => keepc (show Below wr.heap.size wr D.world from D.holds) (keepc hB E5.out);have e6 : ∀ D : Of (PastV wr), _ := fun D => keepc (show Below wr.heap.size wr D.world from D.holds) (keepc hB E6.out);have e7 : ∀ D : Of (PastV wr), _ := fun D => keepc (show Below wr.heap.size wr D.world from D.holds) (keepc hB E7.out);have e8 : ∀ D : Of (PastV wr), _ := fun D => keepc (show Below wr.heap.size wr D.world from D.holds) (keepc hB E8.out);have ST := Lib.hid (pastV_stays wr);have ne : Nonempty (Of (PastV wr)) := ⟨⟨wr, Below.refl _ _⟩⟩
     go_upto_region 7 with fail
     refine wp_region_class (S := PastV wr) (by kernel_rfl) (by kernel_rfl) (Below.refl _ _).drew ?_
     repeat (go_big_quiet_step (first | (go_at_call 84; first | (with_reducible exact class_call ST.out _ (H.out _ _ _)))))
     refine wpQuiet_nil ?_
     rintro _ ⟨D, rfl⟩
     have hD : Below wr.heap.size wr D.world := D.holds
     go_wp2
     go_roundw
     case rel => exact ⟨3, by go_num, by omega, fun _ => A.out.1 (by omega), fun _ => A.out.2.1 (by omega), fun _ => by first | exact E.out | simp, B0.out.trans (hD.mono B0.out.size)⟩
     case measure => simp [intOf]
    ·have e0' : (x6 == x0) = false := by rw [beq_eq_false_iff_ne]; exact h0
     have n0 : (x6 != x0) = true := by rw [bne, e0']; rfl
     have HC := Lib.hid (fun W => H.out x6 x0 W)
     cases hh : hasB y0 y3 y6 x6 x0 with
     | false =>
      rw [hh] at HC;have E : Hid (((x6 != x0) && hasB y0 y3 y6 x6 x0) = false) := Lib.hid (by rw [hh, Bool.and_false]);clear HZ hh;have m3 : ∀ D : Of (PastV wr), _ := fun D => (km.out.keep (show Below wr.heap.size wr D.world from D.holds)).cell (i := 3) rfl;have p0 : ∀ D : Of (PastV wr), _ := fun D => (kp.out.keep (show Below wr.heap.size wr D.world from D.holds)).cell (i := 0) rfl;have p3 : ∀ D : Of (PastV wr), _ := fun D => (kp.out.keep (show Below wr.heap.size wr D.world from D.holds)).cell (i := 3) rfl;have p6 : ∀ D : Of (PastV wr), _ := fun D => (kp.out.keep (show Below wr.heap.size wr D.world from D.holds)).cell (i := 6) rfl;have e0 : ∀ D : Of (PastV wr), _ := fun D => keepc (show Below wr.heap.size wr D.world from D.holds) (keepc hB E0.out);have e1 : ∀ D : Of (PastV wr), _ := fun D => keepc (show Below wr.heap.size wr D.world from D.holds) (keepc hB E1.out);have e2 : ∀ D : Of (PastV wr), _ := fun D => keepc (show Below wr.heap.size wr D.world from D.holds) (keepc hB E2.out);have e3 : ∀ D : Of (PastV wr), _ := fun D => keepc (show Below wr.heap.size wr D.world from D.holds) (keepc hB E3.out);have e4 : ∀ D : Of (PastV wr), _ := fun D => keepc (show Below wr.heap.size wr D.world from D.holds) (keepc hB E4.out);have e5 : ∀ D : Of (PastV wr), _ := fun D => keepc (show Below wr.heap.size wr D.world from D.holds) (keepc hB E5.out);have e6 : ∀ D : Of (PastV wr), _ := fun D => keepc (show Below wr.heap.size wr D.world from D.holds) (keepc hB E6.out);have e7 : ∀ D : Of (PastV wr), _ := fun D => keepc (show Below wr.heap.size wr D.world from D.holds) (keepc hB E7.out);have e8 : ∀ D : Of (PastV wr), _ := fun D => keepc (show Below wr.heap.size wr D.world from D.holds) (keepc hB E8.out);have ST := Lib.hid (pastV_stays wr);have ne : Nonempty (Of (PastV wr)) := ⟨⟨wr, Below.refl _ _⟩⟩
      go_upto_region 7 with fail
      refine wp_region_class (S := PastV wr) (by kernel_rfl) (by kernel_rfl) (Below.refl _ _).drew ?_
      repeat (go_big_quiet_step (first | (go_at_call 84; first | (with_reducible exact class_call ST.out _ (HC.out _)))))
      refine wpQuiet_nil ?_
      rintro _ ⟨D, rfl⟩
      have hD : Below wr.heap.size wr D.world := D.holds
      go_wp2
      go_roundw
      case rel => exact ⟨3, by go_num, by omega, fun _ => A.out.1 (by omega), fun _ => A.out.2.1 (by omega), fun _ => by first | exact E.out | simp, B0.out.trans (hD.mono B0.out.size)⟩
      case measure => simp [intOf]
     | true =>
      rw [hh] at HC;have E : Hid (z = true) := Lib.hid (by rw [HZ.out]; unfold nxE; rw [n0, hh, Bool.true_and, Bool.or_true, Bool.or_true]);clear HZ A hh;have m3 : ∀ D : Of (PastV wr), _ := fun D => (km.out.keep (show Below wr.heap.size wr D.world from D.holds)).cell (i := 3) rfl;have p0 : ∀ D : Of (PastV wr), _ := fun D => (kp.out.keep (show Below wr.heap.size wr D.world from D.holds)).cell (i := 0) rfl;have p3 : ∀ D : Of (PastV wr), _ := fun D => (kp.out.keep (show Below wr.heap.size wr D.world from D.holds)).cell (i := 3) rfl;have p6 : ∀ D : Of (PastV wr), _ := fun D => (kp.out.keep (show Below wr.heap.size wr D.world from D.holds)).cell (i := 6) rfl;have e0 : ∀ D : Of (PastV wr), _ := fun D => keepc (show Below wr.heap.size wr D.world from D.holds) (keepc hB E0.out);have e1 : ∀ D : Of (PastV wr), _ := fun D => keepc (show Below wr.heap.size wr D.world from D.holds) (keepc hB E1.out);have e2 : ∀ D : Of (PastV wr), _ := fun D => keepc (show Below wr.heap.size wr D.world from D.holds) (keepc hB E2.out);have e3 : ∀ D : Of (PastV wr), _ := fun D => keepc (show Below wr.heap.size wr D.world from D.holds) (keepc hB E3.out);have e4 : ∀ D : Of (PastV wr), _ := fun D => keepc (show Below wr.heap.size wr D.world from D.holds) (keepc hB E4.out);have e5 : ∀ D : Of (PastV wr), _ := fun D => keepc (show Below wr.heap.size wr D.world from D.holds) (keepc hB E5.out);have e6 : ∀ D : Of (PastV wr), _ := fun D => keepc (show Below wr.heap.size wr D.world from D.holds) (keepc hB E6.out);have e7 : ∀ D : Of (PastV wr), _ := fun D => keepc (show Below wr.heap.size wr D.world from D.holds) (keepc hB E7.out);have e8 : ∀ D : Of (PastV wr), _ := fun D => keepc (show Below wr.heap.size wr D.world from D.holds) (keepc hB E8.out);have ST := Lib.hid (pastV_stays wr);have ne : Nonempty (Of (PastV wr)) := ⟨⟨wr, Below.refl _ _⟩⟩
      go_upto_region 7 with fail
      refine wp_region_class (S := PastV wr) (by kernel_rfl) (by kernel_rfl) (Below.refl _ _).drew ?_
      repeat (go_big_quiet_step (first | (go_at_call 84; first | (with_reducible exact class_call ST.out _ (HC.out _)))))
      refine wpQuiet_nil ?_
      rintro _ ⟨D, rfl⟩
      have hD : Below wr.heap.size wr D.world := D.holds
      go_wp2
      go_ret
      exact ⟨by rw [E.out]; rfl, HB.out.trans (hD.mono HB.out.size)⟩
   ·have E : Hid (z = false) := Lib.hid (by rw [HZ.out]; unfold nxE; rw [A.out.1 (by omega), A.out.2.1 (by omega), A.out.2.2 (by omega)]; rfl)
    go_wp2
    go_ret
    exact ⟨by rw [E.out]; rfl, HB.out⟩
end Go.Proofs.YtcnbbanpnoigdaaGreat
namespace Go.Proofs.YtcnbbanpnoigdaaGreat
open Go.RowKit

def valsK (n k : Nat) (F : Nat → Nat → Int) : List Value := (List.range (n * k)).map fun q => .int .i64 (F (q / k) (q % k))
theorem valsK_length (n k : Nat) (F : Nat → Nat → Int) : (valsK n k F).length = n * k := by simp [valsK]
theorem valsK_at {n k : Nat} {F : Nat → Nat → Int} {q : Nat} {u : Value} (h : (valsK n k F)[q]? = some u) : q < n * k ∧ u = .int .i64 (F (q / k) (q % k)) := by
 unfold valsK at h;rw [List.getElem?_map] at h;obtain ⟨x, hx, rfl⟩ := Option.map_eq_some_iff.1 h
 have z : q < n * k := by
  rcases Nat.lt_or_ge q (n * k) with z | z
  ·exact z
  ·rw [List.getElem?_eq_none (by simpa using z)] at hx; cases hx
 rw [List.getElem?_range z] at hx
 cases hx
 exact ⟨z, rfl⟩
theorem valsK_get {n k i j : Nat} (F : Nat → Nat → Int) (hi : i < n) (hj : j < k) : (valsK n k F)[i * k + j]? = some (.int .i64 (F i j)) := by
 have hq : i * k + j < n * k := Nat.lt_of_lt_of_le (Nat.add_lt_add_left hj (i * k)) (by rw [← Nat.succ_mul]; exact Nat.mul_le_mul_right k hi)
 have hk : 0 < k := by omega
 unfold valsK;rw [List.getElem?_map, List.getElem?_range hq]
 simp only [Option.map_some]
 rw [Nat.mul_comm i k, Nat.mul_add_div hk, Nat.mul_add_mod, Nat.div_eq_of_lt hj, Nat.mod_eq_of_lt hj, Nat.add_zero]
theorem valsK_one {n k : Nat} {F : Nat → Nat → Int} : ∀ u ∈ valsK n k F, u.oneCell' = true := by
 intro u hu
 unfold valsK at hu;obtain ⟨q, _, rfl⟩ := List.mem_map.1 hu
 rfl
theorem rowK_of_own {w : World} {base n k : Nat} {e : TypeId} {v : Value} {F : Nat → Nat → Int} (h : w.ownsRow base e k v n (valsK n k F)) : ∃ a c, v = .slice a n c ∧ (a = none → n = 0 ∧ c = 0) ∧ n ≤ c ∧ c ≤ 9223372036854775807 ∧ RowK w a n k F := by
 have hl := h.lt;have hc := fun (g : Nat) (hg : v.ownBlock = some g) => h.cells hg;obtain ⟨h1, ⟨rfl, h0⟩ | ⟨g, cap, cur, rfl, hb, hh, hk, hm, _, _⟩⟩ := h
 ·exact ⟨none, 0, by rw [h0], fun _ => ⟨h0, rfl⟩, by omega, by omega, .inl h0⟩
 ·refine ⟨_, cap, rfl, (fun h => by cases h), hk, by unfold maxLen at hm; omega, .inr ⟨g, 0, rfl, (hl g rfl).2, fun i hi j hj => ?_⟩⟩
  have := hc g rfl (i * k + j) _ (valsK_get F hi hj)
  rwa [Go.WideShapes.add_plain] at this
end Go.Proofs.YtcnbbanpnoigdaaGreat
namespace Go.Proofs.YtcnbbanpnoigdaaGreat
open Go.RowKit

theorem valsK_congr {n k : Nat} {F G : Nat → Nat → Int} (h : ∀ i, i < n → ∀ j, j < k → F i j = G i j) : valsK n k F = valsK n k G := by
 unfold valsK
 refine List.map_congr_left fun q hq => ?_
 rw [List.mem_range] at hq
 have hk : 0 < k := by
  rcases Nat.eq_zero_or_pos k with z | z
  ·subst z; simp at hq
  ·exact z
 rw [h (q / k) ((Nat.div_lt_iff_lt_mul hk).2 hq) (q % k) (Nat.mod_lt _ hk)]
def catK (n : Nat) (F G : Nat → Nat → Int) : Nat → Nat → Int := fun t j => if t < n then F t j else G (t - n) j
theorem catK_lo {n t : Nat} (F G : Nat → Nat → Int) (j : Nat) (h : t < n) : catK n F G t j = F t j := if_pos h
theorem catK_hi {n t : Nat} (F G : Nat → Nat → Int) (j : Nat) (h : n ≤ t) : catK n F G t j = G (t - n) j := if_neg (by omega)
theorem valsK_cat (n m k : Nat) (F G : Nat → Nat → Int) : valsK n k F ++ valsK m k G = valsK (n + m) k (catK n F G) := by
 rcases Nat.eq_zero_or_pos k with z | hk
 ·subst z; simp [valsK]
 ·unfold valsK
  rw [Nat.add_mul, List.range_add, List.map_append, List.map_map]
  congr 1
  ·refine List.map_congr_left fun q hq => ?_
   rw [List.mem_range] at hq;rw [catK_lo _ _ _ ((Nat.div_lt_iff_lt_mul hk).2 hq)]
  ·refine List.map_congr_left fun q hq => ?_
   have e1 : (n * k + q) / k = n + q / k := by rw [Nat.add_comm, Nat.add_mul_div_right _ _ hk, Nat.add_comm]
   have e2 : (n * k + q) % k = q % k := by rw [Nat.add_comm, Nat.add_mul_mod_self_right]
   simp only [Function.comp, e1, e2]
   rw [catK_hi _ _ _ (Nat.le_add_right _ _), Nat.add_sub_cancel_left]
theorem wpList_append_catk {P : Program} {w : World} {ops : Array Oper} {rest : List Oper} {o : Oper} {a : Act} {Q : Exit → Act → World → Prop} (hgd : o.guard = none) (s x : Operand) (t : TypeId)
  (ho : o.op = .call { callee := .builtin .append, args := #[s, x], argTypes := #[t, t] })
  (base : Nat) (e : TypeId) (i : TypeInfo) (z : Value) (k bytes : Nat) (ht : P.underlying t = some (.slice e)) (hi : P.info? e = some i) (hz : i.zero = some z)
  (hsize : i.size = k) (hby : i.bytes = bytes) (hzs : z.cells.size = k) (hsz : 0 < k)
  (v : Value) (p : Nat) (G : Nat → Nat → Int) (hs : a.eval s = v) (hown : w.ownsRow base e k v p (valsK p k G))
  (A : Option Addr) (n c : Nat) (F : Nat → Nat → Int) (hx : a.eval x = .slice A n c) (hA : A = none → n = 0 ∧ c = 0) (hr : RowK w A n k F)
  (h63 : p + n ≤ maxLen) (hbytes : (p + n) * bytes ≤ 140737488355328) (hbase : base ≤ w.heap.size)
  (h : ∀ v' w', w'.ownsRow base e k v' (p + n) (valsK (p + n) k (catK p G F)) → Below base w w' → wpList P ops Q rest (a.put o.dst v') w') : wpList P ops Q (o :: rest) a w := by
 rcases A with _ | ad
 ·obtain ⟨rfl, rfl⟩ := hA rfl
  refine wpList_append_own_none hgd s x t ho base e i k ht hi v p (valsK p k G) hs hown hx (h v w ?_ (Below.refl _ _))
  rw [Nat.add_zero, valsK_congr (G := G) (fun i hi j _ => catK_lo G F j hi)]
  exact hown
 ·refine wpList_append_own_at w hgd s x t ho base e i z k bytes ht hi hz hsize hby hzs hsz v p (valsK p k G) hs hown ad n c (valsK n k F) hx (valsK_length n k F) ?_ valsK_one h63 hbytes hbase ?_
  ·intro q u hq
   obtain ⟨h1, rfl⟩ := valsK_at hq
   rcases hr with rfl | ⟨b, off, e, _, hc⟩
   ·simp at h1
   ·cases e
    have hd : q / k < n := (Nat.div_lt_iff_lt_mul hsz).2 h1;have := hc (q / k) hd (q % k) (Nat.mod_lt _ hsz);rw [Go.WideShapes.add_plain]
    rwa [Nat.mul_comm, Nat.div_add_mod] at this
  ·intro v' w' hown' hgrow _ _
   rw [valsK_cat] at hown'
   exact h v' w' hown' ((Below.refl _ w).grown hgrow hbase (fun g hg => (hown.lt g hg).1))
theorem ownK_keep {w w' : World} {base : Nat} {e : TypeId} {k : Nat} {v : Value} {n : Nat} {xs : List Value} (h : w.ownsRow base e k v n xs) (hb : Below w.heap.size w w') : w'.ownsRow base e k v n xs :=
 h.kept (row := none) ⟨hb.os, hb.tape, hb.output, hb.size, fun k hk _ => hb.block k hk⟩ (by
  rcases h.2 with ⟨rfl, _⟩ | ⟨g, cap, cur, rfl, _⟩
  ·exact .inl rfl
  ·exact .inr (by simp [Value.ownBlock]))
end Go.Proofs.YtcnbbanpnoigdaaGreat
namespace Go.Proofs.YtcnbbanpnoigdaaGreat
open Go.RowKit

def RowS (W : World) (a : Option Addr) (n c : Nat) (F : Nat → ByteArray) : Prop :=
 n = 0 ∨ ∃ b off, a = some ⟨b, off, none⟩ ∧ b < W.heap.size ∧ n ≤ c ∧ ∀ i, i < n → W.cell? ⟨b, off + i, none⟩ = some (.string (F i))
end Go.Proofs.YtcnbbanpnoigdaaGreat
namespace Go.Proofs.YtcnbbanpnoigdaaGreat
open Go.RowKit

theorem app_one {W : World} {ops : Array Oper} {rest : List Oper} {o : Oper} {a : Act} {Q : Exit → Act → World → Prop} (hgd : o.guard = none) (s x : Operand) (t e : TypeId) (z : Value) (K bytes : Nat)
  (ht : Tryz.prog.underlying t = some (.slice e)) (hinfo : (Tryz.prog.info? e).map (fun i => (i.zero, i.size, i.bytes)) = some (some z, K, bytes)) (hzs : z.cells.size = K) (hK : 0 < K)
  (ho : o.op = .call { callee := .builtin .append, args := #[s, x], argTypes := #[t, t] })
  (base : Nat) (v : Value) (k : Nat) (L cs : List Value) (hcs : cs.length = K) (hone : ∀ u ∈ cs, u.oneCell' = true) (hs : a.eval s = v) (hown : W.ownsRow base e K v k L) (hx : a.eval x = .slice (some ⟨W.heap.size, 0, none⟩) 1 1)
  (hk : (k + 1) * bytes ≤ 140737488355328) (hk2 : k ≤ 1000000) (hbase : base ≤ W.heap.size)
  (h : ∀ v' w', w'.ownsRow base e K v' (k + 1) (L ++ cs) → Below base W w' → wpList Tryz.prog ops Q rest (a.put o.dst v') w') : wpList Tryz.prog ops Q (o :: rest) a (W.alloc (.cells cs.toArray e)) := by
 obtain ⟨i0, hi, hz0, hz1, hz2⟩ := info_parts hinfo
 refine wpList_append_own _ hgd s x t ho base e i0 z K bytes ht hi hz0 hz1 hz2 hzs hK v k L hs (hown.alloc _) ⟨W.heap.size, 0, none⟩ 1 1 cs hx (by rw [hcs, Nat.one_mul]) ?_ hone ?_ hk ?_ ?_
 ·intro j u hj
  rw [Go.WideShapes.add_plain, Nat.zero_add]
  exact alloc_cell rfl (by rw [List.getElem?_toArray]; exact hj)
 ·unfold maxLen; omega
 ·simp; omega
 ·intro v' w1 hown' hgrow _
  exact h v' w1 hown' (((Below.refl base W).alloc hbase _).grown hgrow (by simp; omega) (fun g hg => (hown.lt g hg).1))
theorem app_act {W : World} {o : Oper} {a : Act} {Kk : Act → World → Prop} {Q : Exit → Act → World → Prop} (s x : Operand) (t e : TypeId) (z : Value) (K bytes : Nat)
  (ht : Tryz.prog.underlying t = some (.slice e)) (hinfo : (Tryz.prog.info? e).map (fun i => (i.zero, i.size, i.bytes)) = some (some z, K, bytes)) (hzs : z.cells.size = K) (hK : 0 < K)
  (ho : o.op = .call { callee := .builtin .append, args := #[s, x], argTypes := #[t, t] })
  (base : Nat) (v : Value) (k : Nat) (L : List Value) (cs : Array Value) (hcs : cs.size = K) (hone : ∀ u ∈ cs, u.oneCell' = true) (hs : a.eval s = v) (hown : W.ownsRow base e K v k L) (g c : Nat) (hx : a.eval x = .slice (some ⟨g, 0, none⟩) 1 c) (hl : Lok W g e cs)
  (hk : (k + 1) * bytes ≤ 140737488355328) (hk2 : k ≤ 1000000) (hbase : base ≤ W.heap.size)
  (h : ∀ v' w', w'.ownsRow base e K v' (k + 1) (L ++ cs.toList) → Below base W w' → Kk (a.put o.dst v') w') : o.wp Tryz.prog a W Kk Q := by
 obtain ⟨i0, hi, hz0, hz1, hz2⟩ := info_parts hinfo
 refine wp_append_own W s x t ho base e i0 z K bytes ht hi hz0 hz1 hz2 hzs hK v k L hs hown ⟨g, 0, none⟩ 1 c cs.toList hx (by rw [Nat.one_mul]; simpa using hcs) ?_ (fun u hu => hone u (by simpa using hu)) ?_ hk hbase ?_
 ·intro j u hj
  rw [Go.WideShapes.add_plain, Nat.zero_add]
  exact hl.cell (by rw [Array.getElem?_toList] at hj; exact hj)
 ·unfold maxLen; omega
 ·intro v' w1 hown' hgrow _
  exact h v' w1 hown' ((Below.refl base W).grown hgrow hbase (fun g hg => (hown.lt g hg).1))
def OwnR (w : World) (base : Nat) (e : TypeId) (k : Nat) (v : Value) (n : Nat) (xs : List Value) : Prop := w.ownsRow base e k v n xs
theorem OwnR.keep {w w' : World} {base : Nat} {e : TypeId} {k : Nat} {v : Value} {n : Nat} {xs : List Value} (h : OwnR w base e k v n xs) (hb : Below w.heap.size w w') : OwnR w' base e k v n xs := ownK_keep h hb
theorem valsK_succ (n k : Nat) (F : Nat → Nat → Int) : valsK (n + 1) k F = valsK n k F ++ (List.range k).map fun j => Value.int .i64 (F n j) := by
 rcases Nat.eq_zero_or_pos k with z | hk
 ·subst z; simp [valsK]
 ·unfold valsK
  rw [Nat.add_mul, Nat.one_mul, List.range_add, List.map_append, List.map_map]
  congr 1
  refine List.map_congr_left fun q hq => ?_
  rw [List.mem_range] at hq
  simp only [Function.comp]
  rw [Nat.mul_comm n k, Nat.mul_add_div hk, Nat.mul_add_mod, Nat.div_eq_of_lt hq, Nat.mod_eq_of_lt hq, Nat.add_zero]
end Go.Proofs.YtcnbbanpnoigdaaGreat
namespace Go.Proofs.YtcnbbanpnoigdaaGreat
open Go.RowKit

def OwnI (w : World) (base : Nat) (v : Value) (L : List Int) : Prop := w.ownsRow base 3 1 v L.length (L.map (Value.int .i64))
theorem OwnI.keep {w w' : World} {base : Nat} {v : Value} {L : List Int} (h : OwnI w base v L) (hb : Below w.heap.size w w') : OwnI w' base v L := ownK_keep h hb
theorem OwnI.nil (w : World) (base : Nat) : OwnI w base (.slice none 0 0) [] := World.ownsRow_nil _ _ _ _
theorem ownR_mono {w : World} {base base' : Nat} {e : TypeId} {k : Nat} {v : Value} {n : Nat} {xs : List Value} (h : w.ownsRow base e k v n xs) (hb : base' ≤ base) : w.ownsRow base' e k v n xs := by
 obtain ⟨h1, h2 | ⟨g, cap, cur, hv, hg, hrest⟩⟩ := h
 ·exact ⟨h1, .inl h2⟩
 ·exact ⟨h1, .inr ⟨g, cap, cur, hv, Nat.le_trans hb hg, hrest⟩⟩
theorem ownI_mono {w : World} {base base' : Nat} {v : Value} {L : List Int} (h : OwnI w base v L) (hb : base' ≤ base) : OwnI w base' v L := ownR_mono h hb
theorem infoI : (Tryz.prog.info? 3).map (fun i => (i.zero, i.size, i.bytes)) = some (some (.int .i64 0), 1, 8) := by kernel_rfl
def RowI (W : World) (a : Option Addr) (n : Nat) (L : List Int) : Prop := L.length = n ∧ RowK W a n 1 (fun i _ => L.getD i 0)
theorem RowI.keep {W W' : World} {a : Option Addr} {n : Nat} {L : List Int} (h : RowI W a n L) (hb : Below W.heap.size W W') : RowI W' a n L := ⟨h.1, h.2.keep hb⟩
theorem RowI.at {W : World} {a : Option Addr} {n : Nat} {L : List Int} (h : RowI W a n L) {i : Nat} (hi : i < n) : ∃ b off, a = some ⟨b, off, none⟩ ∧ b < W.heap.size ∧ ∀ i, i < n → W.cell? ⟨b, off + i, none⟩ = some (.int .i64 (L.getD i 0)) := by
 obtain ⟨b, off, ha, hb, hc⟩ := h.2.at hi
 refine ⟨b, off, ha, hb, fun i hi => ?_⟩
 have z := hc i hi 0 (by omega)
 rwa [Nat.mul_one, Nat.add_zero] at z
theorem map_vals (L : List Int) : L.map (Value.int .i64) = valsK L.length 1 (fun i _ => L.getD i 0) := by
 apply List.ext_getElem
 ·simp [valsK]
 ·intro i h1 h2
  have hi : i < L.length := by simpa using h1
  simp [valsK, List.getElem?_eq_getElem hi, Nat.div_one]
theorem rowI_of_own {w : World} {base : Nat} {v : Value} {L : List Int} (h : OwnI w base v L) : ∃ a c, v = .slice a L.length c ∧ (a = none → L.length = 0 ∧ c = 0) ∧ L.length ≤ c ∧ c ≤ 9223372036854775807 ∧ RowI w a L.length L := by
 unfold OwnI at h;rw [map_vals] at h;obtain ⟨a, c, e, h1, h2, h3, h4⟩ := rowK_of_own h
 exact ⟨a, c, e, h1, h2, h3, rfl, h4⟩
theorem list_of_getD {L M : List Int} (hl : L.length = M.length) (h : ∀ i, i < L.length → L.getD i 0 = M.getD i 0) : L = M := by
 apply List.ext_getElem hl
 intro i h1 h2
 have z := h i h1;rw [List.getD_eq_getElem?_getD, List.getD_eq_getElem?_getD, List.getElem?_eq_getElem h1, List.getElem?_eq_getElem h2] at z
 exact z
def smB (L M : List Int) : Bool := decide (L = M)
theorem smB_yes {L M : List Int} (h : L = M) : smB L M = true := decide_eq_true h
theorem smB_no {L M : List Int} (h : ¬ L = M) : smB L M = false := decide_eq_false h
theorem smB_self (L : List Int) : smB L L = true := smB_yes rfl
set_option maxRecDepth 100000 in
set_option maxHeartbeats 4000000 in
theorem rsame_list (a b : Option Addr) (n m c d : Nat) (L M : List Int) (w : World) (hl : RowI w a n L) (hm : RowI w b m M) (hn : n ≤ 9223372036854775807) (hk : m ≤ 9223372036854775807) :
  Calls Tryz.prog 34 #[.slice a n c, .slice b m d] w fun e w' => e = .returned (.bool (smB L M)) ∧ Below w.heap.size w w' := by
 have HB := Lib.hid (Below.refl w.heap.size w)
 by_cases hnm : n = m
 ·subst hnm
  have RL := Lib.hid hl;have RM := Lib.hid hm;have hlen : L.length = M.length := hl.1.trans hm.1.symm;have hln := hl.1;clear hl hm
  go_enter Tryz.func34, Tryz.ntmps34
  go_wp2_with fail
  go_loopw [5] (fun x wr => ∃ k : Nat, x = .int .i64 k ∧ k ≤ n ∧ (∀ j, j < k → L.getD j 0 = M.getD j 0) ∧ Below w.heap.size w wr) (fun x _ => n - (intOf x).toNat)
  case atStart => exact ⟨0, rfl, Nat.zero_le _, fun j h => absurd h (by omega), HB.out⟩
  case round =>
   obtain ⟨k, rfl, hk', hR, hB⟩ := hrel;replace HB := Lib.hid hB;have HR := Lib.hid hR;clear hB hR
   by_cases hlt : k < n
   ·obtain ⟨p, o, rfl, hb, hc⟩ := (RL.out.keep HB.out).at hlt
    obtain ⟨q, r, rfl, hb2, hc2⟩ := (RM.out.keep HB.out).at hlt;have c0 := hc k hlt;have c1 := hc2 k hlt
    have YES : Hid (L.getD k 0 = M.getD k 0 → ∀ j, j < k + 1 → L.getD j 0 = M.getD j 0) := Lib.hid (fun e j hj => by
     by_cases s : j = k
     ·rw [s]; exact e
     ·exact HR.out j (by omega))
    have NO : Hid (¬ L.getD k 0 = M.getD k 0 → smB L M = false) := Lib.hid (fun e => smB_no (fun h => e (by rw [h])));clear hc hc2;generalize L.getD k 0 = x at *;generalize M.getD k 0 = y at *
    have i0 : (0 : Int) ≤ (k : Int) := by omega
    have i1 : (k : Int) < (n : Int) := by omega
    have i2 : ((k : Int)).toNat = k := by omega
    go_upto_region 6 with fail
    by_cases hxy : x = y
    ·have E := Lib.hid (YES.out hxy)
     clear YES NO;subst hxy
     go_quiet (fail)
     go_wp2
     go_roundw
     case rel => exact ⟨k + 1, by go_num, hlt, E.out, below_drewN HB.out _⟩
     case measure => simp [intOf]; omega
    ·have E := Lib.hid (NO.out hxy)
     have h2 : (x == y) = false := by rw [beq_eq_false_iff_ne]; exact hxy
     have h3 : (x != y) = true := by rw [bne, h2]; rfl
     clear YES NO
     go_quiet (fail)
     go_wp2
     go_ret
     exact ⟨by rw [E.out]; rfl, below_drewN HB.out _⟩
   ·obtain rfl : k = n := by omega
    have E := Lib.hid (smB_yes (list_of_getD hlen (fun i hi => HR.out i (by omega))))
    go_wp2
    go_ret
    exact ⟨by rw [E.out]; rfl, HB.out⟩
 ·have E := Lib.hid (smB_no (L := L) (M := M) (fun h => hnm (by rw [← hl.1, ← hm.1, h])))
  have h1 : ¬ (n : Int) = (m : Int) := by omega
  have h2 : ((n : Int) == (m : Int)) = false := by rw [beq_eq_false_iff_ne]; exact h1
  clear hl hm
  go_enter Tryz.func34, Tryz.ntmps34
  go_wp2
  go_ret
  exact ⟨by rw [E.out]; rfl, HB.out⟩
end Go.Proofs.YtcnbbanpnoigdaaGreat
namespace Go.Proofs.YtcnbbanpnoigdaaGreat
open Go.RowKit

set_option maxRecDepth 100000 in
set_option maxHeartbeats 1000000 in
theorem rnall2_any (A : Option Addr) (n c : Nat) (F : Nat → Nat → Int) (w : World) (hr : RowK w A n 2 F) (hn : n ≤ 9223372036854775807) :
  Calls Tryz.prog 67 #[.slice A n c] w fun e w' => e = .returned (.bool (Go.Proofs.YtcnbbanpnoigdaaGreat.a2 F n)) ∧ Below w.heap.size w w' := by
 have R := Lib.hid hr;clear hr
 go_enter Tryz.func67, Tryz.ntmps67
 go_wp2_with fail
 go_loopw [3] (fun x wr => ∃ k : Nat, x = .int .i64 k ∧ k ≤ n ∧ (∀ j, j < k → n2 (F j 0) (F j 1) = true) ∧ Below w.heap.size w wr) (fun x _ => n - (intOf x).toNat)
 case atStart => exact ⟨0, rfl, Nat.zero_le _, fun j h => absurd h (by omega), by (repeat (first | exact Below.refl _ _ | assumption | refine Below.drew ?_ | refine below_drewN ?_ _ | refine Below.setCell ?_ (by first | omega | (simp; done) | (simp; omega)) _ | refine Below.alloc ?_ (by first | omega | (simp; done) | (simp; omega)) _))⟩
 case round =>
  obtain ⟨k, rfl, hk, hR, hB⟩ := hrel;have HB := Lib.hid hB;have HR := Lib.hid hR;clear hB hR
  by_cases hlt : k < n
  ·obtain ⟨b, o, rfl, hb, hc⟩ := (R.out.keep HB.out).at hlt
   have c0 := hc k hlt 0 (by omega);have c1 := hc k hlt 1 (by omega);rw [Nat.add_zero] at c0;rw [← Nat.add_assoc] at c1;have no : n2 (F k 0) (F k 1) = false → Go.Proofs.YtcnbbanpnoigdaaGreat.a2 F n = false := allB_no (P := fun i => n2 (F i 0) (F i 1)) hlt
   have yes : n2 (F k 0) (F k 1) = true → ∀ j, j < k + 1 → n2 (F j 0) (F j 1) = true := fun q j hj => by
    by_cases e : j = k
    ·rw [e]; exact q
    ·exact HR.out j (by omega)
   generalize F k 0 = x at *;generalize F k 1 = y at *;have NO := Lib.hid no;have YES := Lib.hid yes;clear no yes hc;have SM1 := Lib.hid (fun W => ris2_any x y W)
   have i0 : (0 : Int) ≤ (k : Int) := by omega
   have i1 : (k : Int) < (n : Int) := by omega
   have i2 : ((k : Int)).toNat = k := by omega
   go_wp2_with fail
   (((with_reducible refine (SM1.out _).mono ?_); rintro e w1 ⟨rfl, hb1⟩); replace HB := Lib.hid (HB.out.trans (hb1.mono HB.out.size)); clear hb1)
   clear SM1
   cases hn2 : n2 x y with
   | false =>
    have E := Lib.hid (NO.out hn2);clear NO YES hn2 c0 c1
    go_wp2
    go_ret
    exact ⟨by rw [E.out]; rfl, HB.out⟩
   | true =>
    have E := Lib.hid (YES.out hn2);clear NO YES hn2 c0 c1
    go_wp2
    go_roundw
    case rel => exact ⟨k + 1, by go_num, hlt, E.out, HB.out⟩
    case measure => simp [intOf]; omega
  ·obtain rfl : k = n := by omega
   go_wp2
   go_ret
   refine ⟨?_, HB.out⟩
   have e : Go.Proofs.YtcnbbanpnoigdaaGreat.a2 F k = true := allB_yes HR.out
   rw [e]; rfl
set_option maxRecDepth 100000 in
set_option maxHeartbeats 1000000 in
theorem rnall3_any (A : Option Addr) (n c : Nat) (F : Nat → Nat → Int) (w : World) (hr : RowK w A n 3 F) (hn : n ≤ 9223372036854775807) :
  Calls Tryz.prog 66 #[.slice A n c] w fun e w' => e = .returned (.bool (Go.Proofs.YtcnbbanpnoigdaaGreat.a3 F n)) ∧ Below w.heap.size w w' := by
 have R := Lib.hid hr;clear hr
 go_enter Tryz.func66, Tryz.ntmps66
 go_wp2_with fail
 go_loopw [3] (fun x wr => ∃ k : Nat, x = .int .i64 k ∧ k ≤ n ∧ (∀ j, j < k → n3 (F j 0) (F j 1) (F j 2) = true) ∧ Below w.heap.size w wr) (fun x _ => n - (intOf x).toNat)
 case atStart => exact ⟨0, rfl, Nat.zero_le _, fun j h => absurd h (by omega), by (repeat (first | exact Below.refl _ _ | assumption | refine Below.drew ?_ | refine below_drewN ?_ _ | refine Below.setCell ?_ (by first | omega | (simp; done) | (simp; omega)) _ | refine Below.alloc ?_ (by first | omega | (simp; done) | (simp; omega)) _))⟩
 case round =>
  obtain ⟨k, rfl, hk, hR, hB⟩ := hrel;have HB := Lib.hid hB;have HR := Lib.hid hR;clear hB hR
  by_cases hlt : k < n
  ·obtain ⟨b, o, rfl, hb, hc⟩ := (R.out.keep HB.out).at hlt
   have c0 := hc k hlt 0 (by omega);have c1 := hc k hlt 1 (by omega);have c2 := hc k hlt 2 (by omega);rw [Nat.add_zero] at c0;rw [← Nat.add_assoc] at c1 c2;have no : n3 (F k 0) (F k 1) (F k 2) = false → Go.Proofs.YtcnbbanpnoigdaaGreat.a3 F n = false := allB_no (P := fun i => n3 (F i 0) (F i 1) (F i 2)) hlt
   have yes : n3 (F k 0) (F k 1) (F k 2) = true → ∀ j, j < k + 1 → n3 (F j 0) (F j 1) (F j 2) = true := fun q j hj => by
    by_cases e : j = k
    ·rw [e]; exact q
    ·exact HR.out j (by omega)
   generalize F k 0 = x at *;generalize F k 1 = y at *;generalize F k 2 = z at *;have NO := Lib.hid no;have YES := Lib.hid yes;clear no yes hc;have SM1 := Lib.hid (fun W => ris3_any x y z W)
   have i0 : (0 : Int) ≤ (k : Int) := by omega
   have i1 : (k : Int) < (n : Int) := by omega
   have i2 : ((k : Int)).toNat = k := by omega
   go_wp2_with fail
   (((with_reducible refine (SM1.out _).mono ?_); rintro e w1 ⟨rfl, hb1⟩); replace HB := Lib.hid (HB.out.trans (hb1.mono HB.out.size)); clear hb1)
   clear SM1
   cases hn2 : n3 x y z with
   | false =>
    have E := Lib.hid (NO.out hn2);clear NO YES hn2 c0 c1 c2
    go_wp2
    go_ret
    exact ⟨by rw [E.out]; rfl, HB.out⟩
   | true =>
    have E := Lib.hid (YES.out hn2);clear NO YES hn2 c0 c1 c2
    go_wp2
    go_roundw
    case rel => exact ⟨k + 1, by go_num, hlt, E.out, HB.out⟩
    case measure => simp [intOf]; omega
  ·obtain rfl : k = n := by omega
   go_wp2
   go_ret
   refine ⟨?_, HB.out⟩
   have e : Go.Proofs.YtcnbbanpnoigdaaGreat.a3 F k = true := allB_yes HR.out
   rw [e]; rfl
def wiB (n l m : Int) : Bool := decide (l ≤ n ∧ n ≤ m)
theorem wiB_ge {n l m : Int} (h : l ≤ n) : wiB n l m = decide (n ≤ m) := decide_eq_decide.2 ⟨fun q => q.2, fun q => ⟨h, q⟩⟩
theorem wiB_no {n l m : Int} (h : ¬ l ≤ n) : wiB n l m = false := decide_eq_false (fun q => h q.1)
theorem wiB_pl (p : Int) (n : Nat) : wiB p 0 ((n : Int) - 1) = plB p n := decide_eq_decide.2 (by omega)
theorem wiB_pn (p : Int) (n : Nat) : wiB p (-1) ((n : Int) - 1) = pnB p n := decide_eq_decide.2 (by omega)
set_option maxRecDepth 100000 in
set_option maxHeartbeats 4000000 in
theorem within8_any (n l m : Int) (w : World) :
  Calls Tryz.prog 68 #[.int .i64 n, .int .i64 l, .int .i64 m] w fun e' w' => e' = .returned (.bool (wiB n l m)) ∧ Below w.heap.size w w' := by
 have HB := Lib.hid (Below.refl w.heap.size w)
 by_cases h : l ≤ n
 ·rw [wiB_ge h]
  go_enter Tryz.func68, Tryz.ntmps68
  go_wp2
  go_ret
  exact ⟨rfl, HB.out⟩
 ·rw [wiB_no h]
  go_enter Tryz.func68, Tryz.ntmps68
  go_wp2
  go_ret
  exact ⟨rfl, HB.out⟩
theorem nine_at (c : Nat → Int) {k j : Nat} (hk : k < 3) (hj : j < 3) : (#[.int .i64 (c 0), .int .i64 (c 1), .int .i64 (c 2), .int .i64 (c 3), .int .i64 (c 4), .int .i64 (c 5), .int .i64 (c 6), .int .i64 (c 7), .int .i64 (c 8)] : Array Value)[k * 3 + j]? = some (.int .i64 (c (k * 3 + j))) := by
 rcases show k = 0 ∨ k = 1 ∨ k = 2 by omega with rfl | rfl | rfl <;> rcases show j = 0 ∨ j = 1 ∨ j = 2 by omega with rfl | rfl | rfl <;> rfl
set_option maxRecDepth 100000 in
set_option maxHeartbeats 16000000 in
theorem rmis_any (pa1 pa2 pa3 pa4 : Option Addr) (n1 n2 n3 n4 c1 c2 c3 c4 : Nat) (FV FT FN FC : Nat → Nat → Int) (w : World) (hm : MsW w pa1 pa2 pa3 pa4 n1 n2 n3 n4 FV FT FN FC) :
  Calls Tryz.prog 46 #[.agg #[.slice pa1 n1 c1, .slice pa2 n2 c2, .slice pa3 n3 c3, .slice pa4 n4 c4]] w fun e' w' => e' = .returned (.bool (msB n1 n2 n3 n4 FV FT FN FC)) ∧ Below w.heap.size w w' := by
 have HB := Lib.hid (Below.refl w.heap.size w);have M := Lib.hid hm;clear hm;have V := Lib.hid (fun W (h : Below w.heap.size w W) => rnall3_any pa1 n1 c1 FV W (M.out.keep h).1.1 (by have := M.out.2.1; omega));have T := Lib.hid (fun W (h : Below w.heap.size w W) => rnall2_any pa2 n2 c2 FT W (M.out.keep h).1.2.1 (by have := M.out.2.2.1; omega));have N := Lib.hid (fun W (h : Below w.heap.size w W) => rnall3_any pa3 n3 c3 FN W (M.out.keep h).1.2.2.1 (by have := M.out.2.2.2.1; omega))
 by_cases p1 : n1 ≤ 2000
 case neg =>
  have E : Hid (msB n1 n2 n3 n4 FV FT FN FC = false) := Lib.hid (by unfold msB; rw [shB_no (by omega)]; rfl)
  have q1 : (2000 : Int) < (n1 : Int) := by omega
  have q2 : 2000 < n1 := by omega
  clear V T N
  go_enter Tryz.func46, Tryz.ntmps46
  go_upto_region 1 with fail
  have hbm := below_new1 w (.cells #[.slice pa1 n1 c1, .slice pa2 n2 c2, .slice pa3 n3 c3, .slice pa4 n4 c4] 26)
  have zm : (w.alloc (.cells #[.slice pa1 n1 c1, .slice pa2 n2 c2, .slice pa3 n3 c3, .slice pa4 n4 c4] 26)).heap.size = w.heap.size + 1 := by simp
  have HB := Lib.hid hbm;have km := Lib.hid (Lok.new w 26 #[.slice pa1 n1 c1, .slice pa2 n2 c2, .slice pa3 n3 c3, .slice pa4 n4 c4]);clear hbm;generalize w.alloc (.cells #[.slice pa1 n1 c1, .slice pa2 n2 c2, .slice pa3 n3 c3, .slice pa4 n4 c4] 26) = Vm at *;clear zm;have m0 := km.out.cell (i := 0) rfl;have m1 := km.out.cell (i := 1) rfl;have m2 := km.out.cell (i := 2) rfl;have m3 := km.out.cell (i := 3) rfl
  go_wp2
  go_ret
  exact ⟨by rw [E.out]; rfl, HB.out⟩
 have r1 : ¬ (2000 : Int) < (n1 : Int) := by omega
 have s1 : ¬ 2000 < n1 := by omega
 by_cases p2 : n2 ≤ 2000
 case neg =>
  have E : Hid (msB n1 n2 n3 n4 FV FT FN FC = false) := Lib.hid (by unfold msB; rw [shB_no (by omega)]; rfl)
  have q1 : (2000 : Int) < (n2 : Int) := by omega
  have q2 : 2000 < n2 := by omega
  clear V T N
  go_enter Tryz.func46, Tryz.ntmps46
  go_upto_region 1 with fail
  have hbm := below_new1 w (.cells #[.slice pa1 n1 c1, .slice pa2 n2 c2, .slice pa3 n3 c3, .slice pa4 n4 c4] 26)
  have zm : (w.alloc (.cells #[.slice pa1 n1 c1, .slice pa2 n2 c2, .slice pa3 n3 c3, .slice pa4 n4 c4] 26)).heap.size = w.heap.size + 1 := by simp
  have HB := Lib.hid hbm;have km := Lib.hid (Lok.new w 26 #[.slice pa1 n1 c1, .slice pa2 n2 c2, .slice pa3 n3 c3, .slice pa4 n4 c4]);clear hbm;generalize w.alloc (.cells #[.slice pa1 n1 c1, .slice pa2 n2 c2, .slice pa3 n3 c3, .slice pa4 n4 c4] 26) = Vm at *;clear zm;have m0 := km.out.cell (i := 0) rfl;have m1 := km.out.cell (i := 1) rfl;have m2 := km.out.cell (i := 2) rfl;have m3 := km.out.cell (i := 3) rfl
  go_wp2
  go_ret
  exact ⟨by rw [E.out]; rfl, HB.out⟩
 have r2 : ¬ (2000 : Int) < (n2 : Int) := by omega
 have s2 : ¬ 2000 < n2 := by omega
 by_cases p3 : n3 ≤ 2000
 case neg =>
  have E : Hid (msB n1 n2 n3 n4 FV FT FN FC = false) := Lib.hid (by unfold msB; rw [shB_no (by omega)]; rfl)
  have q1 : (2000 : Int) < (n3 : Int) := by omega
  have q2 : 2000 < n3 := by omega
  clear V T N
  go_enter Tryz.func46, Tryz.ntmps46
  go_upto_region 1 with fail
  have hbm := below_new1 w (.cells #[.slice pa1 n1 c1, .slice pa2 n2 c2, .slice pa3 n3 c3, .slice pa4 n4 c4] 26)
  have zm : (w.alloc (.cells #[.slice pa1 n1 c1, .slice pa2 n2 c2, .slice pa3 n3 c3, .slice pa4 n4 c4] 26)).heap.size = w.heap.size + 1 := by simp
  have HB := Lib.hid hbm;have km := Lib.hid (Lok.new w 26 #[.slice pa1 n1 c1, .slice pa2 n2 c2, .slice pa3 n3 c3, .slice pa4 n4 c4]);clear hbm;generalize w.alloc (.cells #[.slice pa1 n1 c1, .slice pa2 n2 c2, .slice pa3 n3 c3, .slice pa4 n4 c4] 26) = Vm at *;clear zm;have m0 := km.out.cell (i := 0) rfl;have m1 := km.out.cell (i := 1) rfl;have m2 := km.out.cell (i := 2) rfl;have m3 := km.out.cell (i := 3) rfl
  go_wp2
  go_ret
  exact ⟨by rw [E.out]; rfl, HB.out⟩
 have r3 : ¬ (2000 : Int) < (n3 : Int) := by omega
 have s3 : ¬ 2000 < n3 := by omega
 by_cases p4 : n4 ≤ 500
 case neg =>
  have E : Hid (msB n1 n2 n3 n4 FV FT FN FC = false) := Lib.hid (by unfold msB; rw [shB_no (by omega)]; rfl)
  have q1 : (500 : Int) < (n4 : Int) := by omega
  have q2 : 500 < n4 := by omega
  clear V T N
  go_enter Tryz.func46, Tryz.ntmps46
  go_upto_region 1 with fail
  have hbm := below_new1 w (.cells #[.slice pa1 n1 c1, .slice pa2 n2 c2, .slice pa3 n3 c3, .slice pa4 n4 c4] 26)
  have zm : (w.alloc (.cells #[.slice pa1 n1 c1, .slice pa2 n2 c2, .slice pa3 n3 c3, .slice pa4 n4 c4] 26)).heap.size = w.heap.size + 1 := by simp
  have HB := Lib.hid hbm;have km := Lib.hid (Lok.new w 26 #[.slice pa1 n1 c1, .slice pa2 n2 c2, .slice pa3 n3 c3, .slice pa4 n4 c4]);clear hbm;generalize w.alloc (.cells #[.slice pa1 n1 c1, .slice pa2 n2 c2, .slice pa3 n3 c3, .slice pa4 n4 c4] 26) = Vm at *;clear zm;have m0 := km.out.cell (i := 0) rfl;have m1 := km.out.cell (i := 1) rfl;have m2 := km.out.cell (i := 2) rfl;have m3 := km.out.cell (i := 3) rfl
  go_wp2
  go_ret
  exact ⟨by rw [E.out]; rfl, HB.out⟩
 have r4 : ¬ (500 : Int) < (n4 : Int) := by omega
 have s4 : ¬ 500 < n4 := by omega
 have hs : shB n1 n2 n3 n4 = true := shB_iff.2 ⟨⟨p1, p2, p3⟩, p4⟩
 cases h1 : a3 FV n1 with
 | false =>
  rw [h1] at V;have E : Hid (msB n1 n2 n3 n4 FV FT FN FC = false) := Lib.hid (by unfold msB; rw [hs, h1]; simp);clear hs p1 p2 p3 p4 h1
  go_enter Tryz.func46, Tryz.ntmps46
  go_upto_region 1 with fail
  have hbm := below_new1 w (.cells #[.slice pa1 n1 c1, .slice pa2 n2 c2, .slice pa3 n3 c3, .slice pa4 n4 c4] 26)
  have zm : (w.alloc (.cells #[.slice pa1 n1 c1, .slice pa2 n2 c2, .slice pa3 n3 c3, .slice pa4 n4 c4] 26)).heap.size = w.heap.size + 1 := by simp
  have HB := Lib.hid hbm;have km := Lib.hid (Lok.new w 26 #[.slice pa1 n1 c1, .slice pa2 n2 c2, .slice pa3 n3 c3, .slice pa4 n4 c4]);clear hbm;generalize w.alloc (.cells #[.slice pa1 n1 c1, .slice pa2 n2 c2, .slice pa3 n3 c3, .slice pa4 n4 c4] 26) = Vm at *;clear zm;have m0 := km.out.cell (i := 0) rfl;have m1 := km.out.cell (i := 1) rfl;have m2 := km.out.cell (i := 2) rfl;have m3 := km.out.cell (i := 3) rfl
  go_wp2_with fail
  clear m0 m1 m2 m3
  (((with_reducible refine (V.out _ HB.out).mono ?_); rintro e w1 ⟨rfl, hb1⟩); replace HB := Lib.hid (HB.out.trans (hb1.mono HB.out.size)); replace km := Lib.hid (km.out.keep hb1); clear hb1)
  clear km
  go_wp2
  go_ret
  exact ⟨by rw [E.out]; rfl, HB.out⟩
 | true =>
  rw [h1] at V
  cases h2 : a2 FT n2 with
  | false =>
   rw [h2] at T;have E : Hid (msB n1 n2 n3 n4 FV FT FN FC = false) := Lib.hid (by unfold msB; rw [hs, h1, h2]; simp);clear hs p1 p2 p3 p4 h1 h2
   go_enter Tryz.func46, Tryz.ntmps46
   go_upto_region 1 with fail
   have hbm := below_new1 w (.cells #[.slice pa1 n1 c1, .slice pa2 n2 c2, .slice pa3 n3 c3, .slice pa4 n4 c4] 26)
   have zm : (w.alloc (.cells #[.slice pa1 n1 c1, .slice pa2 n2 c2, .slice pa3 n3 c3, .slice pa4 n4 c4] 26)).heap.size = w.heap.size + 1 := by simp
   have HB := Lib.hid hbm;have km := Lib.hid (Lok.new w 26 #[.slice pa1 n1 c1, .slice pa2 n2 c2, .slice pa3 n3 c3, .slice pa4 n4 c4]);clear hbm;generalize w.alloc (.cells #[.slice pa1 n1 c1, .slice pa2 n2 c2, .slice pa3 n3 c3, .slice pa4 n4 c4] 26) = Vm at *;clear zm;have m0 := km.out.cell (i := 0) rfl;have m1 := km.out.cell (i := 1) rfl;have m2 := km.out.cell (i := 2) rfl;have m3 := km.out.cell (i := 3) rfl
   go_wp2_with fail
   clear m0 m1 m2 m3
   (((with_reducible refine (V.out _ HB.out).mono ?_); rintro e w1 ⟨rfl, hb1⟩); replace HB := Lib.hid (HB.out.trans (hb1.mono HB.out.size)); replace km := Lib.hid (km.out.keep hb1); clear hb1)
   have m0 := km.out.cell (i := 0) rfl;have m1 := km.out.cell (i := 1) rfl;have m2 := km.out.cell (i := 2) rfl;have m3 := km.out.cell (i := 3) rfl
   go_wp2_with fail
   clear m0 m1 m2 m3
   (((with_reducible refine (T.out _ HB.out).mono ?_); rintro e w2 ⟨rfl, hb2⟩); replace HB := Lib.hid (HB.out.trans (hb2.mono HB.out.size)); replace km := Lib.hid (km.out.keep hb2); clear hb2)
   clear km
   go_wp2
   go_ret
   exact ⟨by rw [E.out]; rfl, HB.out⟩
  | true =>
   rw [h2] at T
   cases h3 : a3 FN n3 with
   | false =>
    rw [h3] at N;have E : Hid (msB n1 n2 n3 n4 FV FT FN FC = false) := Lib.hid (by unfold msB; rw [hs, h1, h2, h3]; simp);clear hs p1 p2 p3 p4 h1 h2 h3
    go_enter Tryz.func46, Tryz.ntmps46
    go_upto_region 1 with fail
    have hbm := below_new1 w (.cells #[.slice pa1 n1 c1, .slice pa2 n2 c2, .slice pa3 n3 c3, .slice pa4 n4 c4] 26)
    have zm : (w.alloc (.cells #[.slice pa1 n1 c1, .slice pa2 n2 c2, .slice pa3 n3 c3, .slice pa4 n4 c4] 26)).heap.size = w.heap.size + 1 := by simp
    have HB := Lib.hid hbm;have km := Lib.hid (Lok.new w 26 #[.slice pa1 n1 c1, .slice pa2 n2 c2, .slice pa3 n3 c3, .slice pa4 n4 c4]);clear hbm;generalize w.alloc (.cells #[.slice pa1 n1 c1, .slice pa2 n2 c2, .slice pa3 n3 c3, .slice pa4 n4 c4] 26) = Vm at *;clear zm;have m0 := km.out.cell (i := 0) rfl;have m1 := km.out.cell (i := 1) rfl;have m2 := km.out.cell (i := 2) rfl;have m3 := km.out.cell (i := 3) rfl
    go_wp2_with fail
    clear m0 m1 m2 m3
    (((with_reducible refine (V.out _ HB.out).mono ?_); rintro e w1 ⟨rfl, hb1⟩); replace HB := Lib.hid (HB.out.trans (hb1.mono HB.out.size)); replace km := Lib.hid (km.out.keep hb1); clear hb1)
    have m0 := km.out.cell (i := 0) rfl;have m1 := km.out.cell (i := 1) rfl;have m2 := km.out.cell (i := 2) rfl;have m3 := km.out.cell (i := 3) rfl
    go_wp2_with fail
    clear m0 m1 m2 m3
    (((with_reducible refine (T.out _ HB.out).mono ?_); rintro e w2 ⟨rfl, hb2⟩); replace HB := Lib.hid (HB.out.trans (hb2.mono HB.out.size)); replace km := Lib.hid (km.out.keep hb2); clear hb2)
    have m0 := km.out.cell (i := 0) rfl;have m1 := km.out.cell (i := 1) rfl;have m2 := km.out.cell (i := 2) rfl;have m3 := km.out.cell (i := 3) rfl
    go_wp2_with fail
    clear m0 m1 m2 m3
    (((with_reducible refine (N.out _ HB.out).mono ?_); rintro e w3 ⟨rfl, hb3⟩); replace HB := Lib.hid (HB.out.trans (hb3.mono HB.out.size)); replace km := Lib.hid (km.out.keep hb3); clear hb3)
    clear km
    go_wp2
    go_ret
    exact ⟨by rw [E.out]; rfl, HB.out⟩
   | true =>
    rw [h3] at N;have HM : Hid (msB n1 n2 n3 n4 FV FT FN FC = allB (fun i => trB n1 n2 n3 (FC i)) n4) := Lib.hid (by unfold msB; rw [hs, h1, h2, h3]; rfl);have e1 : IntKind.i64.wrap ((n1 : Int) - 1) = (n1 : Int) - 1 := IntWalk.i64_in _ (by omega);have e2 : IntKind.i64.wrap ((n2 : Int) - 1) = (n2 : Int) - 1 := IntWalk.i64_in _ (by omega);have e3 : IntKind.i64.wrap ((n3 : Int) - 1) = (n3 : Int) - 1 := IntWalk.i64_in _ (by omega);clear hs h1 h2 h3
    go_enter Tryz.func46, Tryz.ntmps46
    go_upto_region 1 with fail
    have hbm := below_new1 w (.cells #[.slice pa1 n1 c1, .slice pa2 n2 c2, .slice pa3 n3 c3, .slice pa4 n4 c4] 26)
    have zm : (w.alloc (.cells #[.slice pa1 n1 c1, .slice pa2 n2 c2, .slice pa3 n3 c3, .slice pa4 n4 c4] 26)).heap.size = w.heap.size + 1 := by simp
    have HB := Lib.hid hbm;have km := Lib.hid (Lok.new w 26 #[.slice pa1 n1 c1, .slice pa2 n2 c2, .slice pa3 n3 c3, .slice pa4 n4 c4]);clear hbm;generalize w.alloc (.cells #[.slice pa1 n1 c1, .slice pa2 n2 c2, .slice pa3 n3 c3, .slice pa4 n4 c4] 26) = Vm at *;clear zm;have m0 := km.out.cell (i := 0) rfl;have m1 := km.out.cell (i := 1) rfl;have m2 := km.out.cell (i := 2) rfl;have m3 := km.out.cell (i := 3) rfl
    go_wp2_with fail
    clear m0 m1 m2 m3
    (((with_reducible refine (V.out _ HB.out).mono ?_); rintro e w1 ⟨rfl, hb1⟩); replace HB := Lib.hid (HB.out.trans (hb1.mono HB.out.size)); replace km := Lib.hid (km.out.keep hb1); clear hb1)
    have m0 := km.out.cell (i := 0) rfl;have m1 := km.out.cell (i := 1) rfl;have m2 := km.out.cell (i := 2) rfl;have m3 := km.out.cell (i := 3) rfl
    go_wp2_with fail
    clear m0 m1 m2 m3
    (((with_reducible refine (T.out _ HB.out).mono ?_); rintro e w2 ⟨rfl, hb2⟩); replace HB := Lib.hid (HB.out.trans (hb2.mono HB.out.size)); replace km := Lib.hid (km.out.keep hb2); clear hb2)
    have m0 := km.out.cell (i := 0) rfl;have m1 := km.out.cell (i := 1) rfl;have m2 := km.out.cell (i := 2) rfl;have m3 := km.out.cell (i := 3) rfl
    go_wp2_with fail
    clear m0 m1 m2 m3
    (((with_reducible refine (N.out _ HB.out).mono ?_); rintro e w3 ⟨rfl, hb3⟩); replace HB := Lib.hid (HB.out.trans (hb3.mono HB.out.size)); replace km := Lib.hid (km.out.keep hb3); clear hb3)
    have km0 := km;have HB0 := HB;clear km HB V T N r1 r2 r3 r4 s1 s2 s3 s4;have m3 := km0.out.cell (i := 3) rfl
    go_wp2_with fail
    clear m3
    go_loopw [3] (fun x wr => ∃ i : Nat, x = .int .i64 i ∧ i ≤ n4 ∧ (∀ j, j < i → trB n1 n2 n3 (FC j) = true) ∧ Below w3.heap.size w3 wr) (fun x _ => n4 - (intOf x).toNat)
    case atStart => exact ⟨0, rfl, Nat.zero_le _, fun j h => absurd h (by omega), Below.refl _ _⟩
    case round =>
     obtain ⟨i, rfl, hi, hR, hB⟩ := hrel;have HB := Lib.hid (HB0.out.trans (hB.mono HB0.out.size));have BW := Lib.hid hB;have km := Lib.hid (km0.out.keep hB);have HR := Lib.hid hR;clear hB hR;have m3 := km.out.cell (i := 3) rfl
     by_cases hlt : i < n4
     ·obtain ⟨b, o, rfl, hb, hc⟩ := ((M.out.keep HB.out).1.2.2.2).at hlt
      have d0 := hc i hlt 0 (by omega);have d1 := hc i hlt 1 (by omega);have d2 := hc i hlt 2 (by omega);have d3 := hc i hlt 3 (by omega);have d4 := hc i hlt 4 (by omega);have d5 := hc i hlt 5 (by omega);have d6 := hc i hlt 6 (by omega);have d7 := hc i hlt 7 (by omega);have d8 := hc i hlt 8 (by omega);rw [Nat.add_zero] at d0;rw [← Nat.add_assoc] at d1 d2 d3 d4 d5 d6 d7 d8;have no : trB n1 n2 n3 (FC i) = false → allB (fun i => trB n1 n2 n3 (FC i)) n4 = false := allB_no (P := fun i => trB n1 n2 n3 (FC i)) hlt
      have yes : trB n1 n2 n3 (FC i) = true → ∀ j, j < i + 1 → trB n1 n2 n3 (FC j) = true := fun q j hj => by
       by_cases e : j = i
       ·rw [e]; exact q
       ·exact HR.out j (by omega)
      clear hc;generalize FC i = c at *;have NO := Lib.hid no;have YES := Lib.hid yes;clear no yes
      have i0 : (0 : Int) ≤ (i : Int) := by omega
      have i1 : (i : Int) < (n4 : Int) := by omega
      have i2 : ((i : Int)).toNat = i := by omega
      have BW2 := Lib.hid (BW.out.trans ((below_new1 wr (.cells #[.int .i64 (c 0), .int .i64 (c 1), .int .i64 (c 2), .int .i64 (c 3), .int .i64 (c 4), .int .i64 (c 5), .int .i64 (c 6), .int .i64 (c 7), .int .i64 (c 8)] 88)).mono BW.out.size))
      go_upto_region 7 with fail
      have hbp := below_new1 wr (.cells #[.int .i64 (c 0), .int .i64 (c 1), .int .i64 (c 2), .int .i64 (c 3), .int .i64 (c 4), .int .i64 (c 5), .int .i64 (c 6), .int .i64 (c 7), .int .i64 (c 8)] 88);replace km := Lib.hid (km.out.keep hbp)
      have zp : (wr.alloc (.cells #[.int .i64 (c 0), .int .i64 (c 1), .int .i64 (c 2), .int .i64 (c 3), .int .i64 (c 4), .int .i64 (c 5), .int .i64 (c 6), .int .i64 (c 7), .int .i64 (c 8)] 88)).heap.size = wr.heap.size + 1 := by simp
      replace HB := Lib.hid (HB.out.trans (hbp.mono HB.out.size));have kp := Lib.hid (Lok.new wr 88 #[.int .i64 (c 0), .int .i64 (c 1), .int .i64 (c 2), .int .i64 (c 3), .int .i64 (c 4), .int .i64 (c 5), .int .i64 (c 6), .int .i64 (c 7), .int .i64 (c 8)]);clear hbp;generalize wr.alloc (.cells #[.int .i64 (c 0), .int .i64 (c 1), .int .i64 (c 2), .int .i64 (c 3), .int .i64 (c 4), .int .i64 (c 5), .int .i64 (c 6), .int .i64 (c 7), .int .i64 (c 8)] 88) = Vp at *;clear zp d0 d1 d2 d3 d4 d5 d6 d7 d8 BW m3;have km2 := km;have kp2 := kp;have HB2 := HB;clear km kp HB
      go_wp2_with fail
      go_loopw [5] (fun x wr => ∃ k : Nat, x = .int .i64 k ∧ k ≤ 3 ∧ (∀ j, j < k → cnB n1 n2 n3 (c (j * 3)) (c (j * 3 + 1)) (c (j * 3 + 2)) (c 1) (c 2) = true) ∧ Below Vp.heap.size Vp wr) (fun x _ => 3 - (intOf x).toNat)
      case atStart => exact ⟨0, rfl, Nat.zero_le _, fun j h => absurd h (by omega), Below.refl _ _⟩
      case round =>
       obtain ⟨k, rfl, hk, hS, hB⟩ := hrel;have HB := Lib.hid (HB2.out.trans (hB.mono HB2.out.size));have BV := Lib.hid hB;have km := Lib.hid (km2.out.keep hB);have kp := Lib.hid (kp2.out.keep hB);have HS := Lib.hid hS;clear hB hS
       by_cases hl3 : k < 3
       ·have q0 : ∀ D : Of (PastV wr), _ := fun D => (kp.out.keep (show Below wr.heap.size wr D.world from D.holds)).cell (nine_at c hl3 (show 0 < 3 by omega))
        have q1 : ∀ D : Of (PastV wr), _ := fun D => (kp.out.keep (show Below wr.heap.size wr D.world from D.holds)).cell (nine_at c hl3 (show 1 < 3 by omega));have q2 : ∀ D : Of (PastV wr), _ := fun D => (kp.out.keep (show Below wr.heap.size wr D.world from D.holds)).cell (nine_at c hl3 (show 2 < 3 by omega));have q3 : ∀ D : Of (PastV wr), _ := fun D => (kp.out.keep (show Below wr.heap.size wr D.world from D.holds)).cell (i := 1) rfl;have q4 : ∀ D : Of (PastV wr), _ := fun D => (kp.out.keep (show Below wr.heap.size wr D.world from D.holds)).cell (i := 2) rfl;have m0 : ∀ D : Of (PastV wr), _ := fun D => (km.out.keep (show Below wr.heap.size wr D.world from D.holds)).cell (i := 0) rfl;have m1 : ∀ D : Of (PastV wr), _ := fun D => (km.out.keep (show Below wr.heap.size wr D.world from D.holds)).cell (i := 1) rfl;have m2 : ∀ D : Of (PastV wr), _ := fun D => (km.out.keep (show Below wr.heap.size wr D.world from D.holds)).cell (i := 2) rfl
        simp only [Nat.add_zero] at q0
        have CN : Hid (cnB n1 n2 n3 (c (k * 3)) (c (k * 3 + 1)) (c (k * 3 + 2)) (c 1) (c 2) = false → allB (fun i => trB n1 n2 n3 (FC i)) n4 = false) := Lib.hid (fun q => NO.out (allB_no (P := fun k => cnB n1 n2 n3 (c (k * 3)) (c (k * 3 + 1)) (c (k * 3 + 2)) (c 1) (c 2)) hl3 q))
        have CY : Hid (cnB n1 n2 n3 (c (k * 3)) (c (k * 3 + 1)) (c (k * 3 + 2)) (c 1) (c 2) = true → ∀ j, j < k + 1 → cnB n1 n2 n3 (c (j * 3)) (c (j * 3 + 1)) (c (j * 3 + 2)) (c 1) (c 2) = true) := Lib.hid (fun q j hj => by
         by_cases e : j = k
         ·rw [e]; exact q
         ·exact HS.out j (by omega))
        have T0 : Hid (pnB (c (k * 3 + 1)) n2 = true → pnB (c (k * 3 + 2)) n3 = true → -1 ≤ c 1 ∧ -1 ≤ c 2) := Lib.hid (fun a b => by
         rcases Nat.eq_zero_or_pos k with z | z
         ·subst z; exact ⟨(pnB_iff.1 a).1, (pnB_iff.1 b).1⟩
         ·have y := cnB_iff.1 (HS.out 0 z); exact ⟨y.2.1.1, y.2.2.1.1⟩)
        generalize c (k * 3) = v at *;generalize c (k * 3 + 1) = t at *;generalize c (k * 3 + 2) = u at *;generalize c 1 = t0 at *;generalize c 2 = u0 at *;have W1 := Lib.hid (fun W => within8_any v 0 ((n1 : Int) - 1) W);have W2 := Lib.hid (fun W => within8_any t (-1) ((n2 : Int) - 1) W);have W3 := Lib.hid (fun W => within8_any u (-1) ((n3 : Int) - 1) W);rw [wiB_pl] at W1;rw [wiB_pn] at W2 W3;clear HS NO
        have k0 : (0 : Int) ≤ (k : Int) := by omega
        have k1 : (k : Int) < 3 := by omega
        have k2 : ((k : Int)).toNat = k := by omega
        have ST := Lib.hid (pastV_stays wr);have ne : Nonempty (Of (PastV wr)) := ⟨⟨wr, Below.refl _ _⟩⟩
        go_upto_region 10 with fail
        cases g1 : plB v n1 with
        | false =>
         rw [g1] at W1
         have E : Hid (allB (fun i => trB n1 n2 n3 (FC i)) n4 = false) := by
          refine Lib.hid (CN.out ?_)
          cases e : cnB n1 n2 n3 v t u t0 u0 with
          | false => rfl
          | true =>
           have y := (cnB_iff.1 e).1
           rw [plB_iff.2 y] at g1; cases g1
         clear CN CY YES g1
         refine wp_region_class (S := PastV wr) (by kernel_rfl) (by kernel_rfl) (Below.refl _ _).drew ?_
         repeat (go_big_quiet_step (first | (go_at_call 68; first | (with_reducible exact class_call ST.out _ (W1.out _)) | (with_reducible exact class_call ST.out _ (W2.out _)) | (with_reducible exact class_call ST.out _ (W3.out _)))))
         refine wpQuiet_nil ?_
         rintro _ ⟨D, rfl⟩
         have hD : Below wr.heap.size wr D.world := D.holds
         go_wp2
         go_ret
         exact ⟨by rw [HM.out, E.out]; rfl, HB.out.trans (hD.mono HB.out.size)⟩
        | true =>
         rw [g1] at W1
         cases g2 : pnB t n2 with
         | false =>
          rw [g2] at W2
          have E : Hid (allB (fun i => trB n1 n2 n3 (FC i)) n4 = false) := by
           refine Lib.hid (CN.out ?_)
           cases e : cnB n1 n2 n3 v t u t0 u0 with
           | false => rfl
           | true =>
            have y := (cnB_iff.1 e).2.1
            rw [pnB_iff.2 y] at g2; cases g2
          clear CN CY YES g1 g2
          refine wp_region_class (S := PastV wr) (by kernel_rfl) (by kernel_rfl) (Below.refl _ _).drew ?_
          repeat (go_big_quiet_step (first | (go_at_call 68; first | (with_reducible exact class_call ST.out _ (W1.out _)) | (with_reducible exact class_call ST.out _ (W2.out _)) | (with_reducible exact class_call ST.out _ (W3.out _)))))
          refine wpQuiet_nil ?_
          rintro _ ⟨D, rfl⟩
          have hD : Below wr.heap.size wr D.world := D.holds
          go_wp2
          go_ret
          exact ⟨by rw [HM.out, E.out]; rfl, HB.out.trans (hD.mono HB.out.size)⟩
         | true =>
          rw [g2] at W2
          cases g3 : pnB u n3 with
          | false =>
           rw [g3] at W3
           have E : Hid (allB (fun i => trB n1 n2 n3 (FC i)) n4 = false) := by
            refine Lib.hid (CN.out ?_)
            cases e : cnB n1 n2 n3 v t u t0 u0 with
            | false => rfl
            | true =>
             have y := (cnB_iff.1 e).2.2.1
             rw [pnB_iff.2 y] at g3; cases g3
           clear CN CY YES g1 g2 g3
           refine wp_region_class (S := PastV wr) (by kernel_rfl) (by kernel_rfl) (Below.refl _ _).drew ?_
           repeat (go_big_quiet_step (first | (go_at_call 68; first | (with_reducible exact class_call ST.out _ (W1.out _)) | (with_reducible exact class_call ST.out _ (W2.out _)) | (with_reducible exact class_call ST.out _ (W3.out _)))))
           refine wpQuiet_nil ?_
           rintro _ ⟨D, rfl⟩
           have hD : Below wr.heap.size wr D.world := D.holds
           go_wp2
           go_ret
           exact ⟨by rw [HM.out, E.out]; rfl, HB.out.trans (hD.mono HB.out.size)⟩
          | true =>
           rw [g3] at W3;have bt := (pnB_iff.1 g2).1;have bu := (pnB_iff.1 g3).1;obtain ⟨bt0, bu0⟩ := T0.out g2 g3
           by_cases r1 : t < 0
           ·by_cases r2 : t0 < 0
            ·skip
             by_cases r3 : u < 0
             ·by_cases r4 : u0 < 0
              ·skip
               have E := Lib.hid (CY.out (cnB_iff.2 ⟨plB_iff.1 g1, pnB_iff.1 g2, pnB_iff.1 g3, ⟨⟨fun _ => by omega, fun _ => by omega⟩, ⟨fun _ => by omega, fun _ => by omega⟩⟩⟩));clear CN CY YES g1 g2 g3
               refine wp_region_class (S := PastV wr) (by kernel_rfl) (by kernel_rfl) (Below.refl _ _).drew ?_
               repeat (go_big_quiet_step (first | (go_at_call 68; first | (with_reducible exact class_call ST.out _ (W1.out _)) | (with_reducible exact class_call ST.out _ (W2.out _)) | (with_reducible exact class_call ST.out _ (W3.out _)))))
               refine wpQuiet_nil ?_
               rintro _ ⟨D, rfl⟩
               have hD : Below wr.heap.size wr D.world := D.holds
               go_wp2
               go_roundw
               case rel => exact ⟨k + 1, by go_num, hl3, E.out, BV.out.trans (hD.mono BV.out.size)⟩
               case measure => simp [intOf]; omega
              ·skip
               have E : Hid (allB (fun i => trB n1 n2 n3 (FC i)) n4 = false) := by
                refine Lib.hid (CN.out ?_)
                cases e : cnB n1 n2 n3 v t u t0 u0 with
                | false => rfl
                | true =>
                 have y := (cnB_iff.1 e).2.2.2.2
                 omega
               clear CN CY YES
               refine wp_region_class (S := PastV wr) (by kernel_rfl) (by kernel_rfl) (Below.refl _ _).drew ?_
               repeat (go_big_quiet_step (first | (go_at_call 68; first | (with_reducible exact class_call ST.out _ (W1.out _)) | (with_reducible exact class_call ST.out _ (W2.out _)) | (with_reducible exact class_call ST.out _ (W3.out _)))))
               refine wpQuiet_nil ?_
               rintro _ ⟨D, rfl⟩
               have hD : Below wr.heap.size wr D.world := D.holds
               go_wp2
               go_ret
               exact ⟨by rw [HM.out, E.out]; rfl, HB.out.trans (hD.mono HB.out.size)⟩
             ·by_cases r4 : u0 < 0
              ·skip
               have E : Hid (allB (fun i => trB n1 n2 n3 (FC i)) n4 = false) := by
                refine Lib.hid (CN.out ?_)
                cases e : cnB n1 n2 n3 v t u t0 u0 with
                | false => rfl
                | true =>
                 have y := (cnB_iff.1 e).2.2.2.2
                 omega
               clear CN CY YES
               refine wp_region_class (S := PastV wr) (by kernel_rfl) (by kernel_rfl) (Below.refl _ _).drew ?_
               repeat (go_big_quiet_step (first | (go_at_call 68; first | (with_reducible exact class_call ST.out _ (W1.out _)) | (with_reducible exact class_call ST.out _ (W2.out _)) | (with_reducible exact class_call ST.out _ (W3.out _)))))
               refine wpQuiet_nil ?_
               rintro _ ⟨D, rfl⟩
               have hD : Below wr.heap.size wr D.world := D.holds
               go_wp2
               go_ret
               exact ⟨by rw [HM.out, E.out]; rfl, HB.out.trans (hD.mono HB.out.size)⟩
              ·skip
               have E := Lib.hid (CY.out (cnB_iff.2 ⟨plB_iff.1 g1, pnB_iff.1 g2, pnB_iff.1 g3, ⟨⟨fun _ => by omega, fun _ => by omega⟩, ⟨fun _ => by omega, fun _ => by omega⟩⟩⟩));clear CN CY YES g1 g2 g3
               refine wp_region_class (S := PastV wr) (by kernel_rfl) (by kernel_rfl) (Below.refl _ _).drew ?_
               repeat (go_big_quiet_step (first | (go_at_call 68; first | (with_reducible exact class_call ST.out _ (W1.out _)) | (with_reducible exact class_call ST.out _ (W2.out _)) | (with_reducible exact class_call ST.out _ (W3.out _)))))
               refine wpQuiet_nil ?_
               rintro _ ⟨D, rfl⟩
               have hD : Below wr.heap.size wr D.world := D.holds
               go_wp2
               go_roundw
               case rel => exact ⟨k + 1, by go_num, hl3, E.out, BV.out.trans (hD.mono BV.out.size)⟩
               case measure => simp [intOf]; omega
            ·skip
             have E : Hid (allB (fun i => trB n1 n2 n3 (FC i)) n4 = false) := by
              refine Lib.hid (CN.out ?_)
              cases e : cnB n1 n2 n3 v t u t0 u0 with
              | false => rfl
              | true =>
               have y := (cnB_iff.1 e).2.2.2.1
               omega
             clear CN CY YES
             refine wp_region_class (S := PastV wr) (by kernel_rfl) (by kernel_rfl) (Below.refl _ _).drew ?_
             repeat (go_big_quiet_step (first | (go_at_call 68; first | (with_reducible exact class_call ST.out _ (W1.out _)) | (with_reducible exact class_call ST.out _ (W2.out _)) | (with_reducible exact class_call ST.out _ (W3.out _)))))
             refine wpQuiet_nil ?_
             rintro _ ⟨D, rfl⟩
             have hD : Below wr.heap.size wr D.world := D.holds
             go_wp2
             go_ret
             exact ⟨by rw [HM.out, E.out]; rfl, HB.out.trans (hD.mono HB.out.size)⟩
           ·by_cases r2 : t0 < 0
            ·skip
             have E : Hid (allB (fun i => trB n1 n2 n3 (FC i)) n4 = false) := by
              refine Lib.hid (CN.out ?_)
              cases e : cnB n1 n2 n3 v t u t0 u0 with
              | false => rfl
              | true =>
               have y := (cnB_iff.1 e).2.2.2.1
               omega
             clear CN CY YES
             refine wp_region_class (S := PastV wr) (by kernel_rfl) (by kernel_rfl) (Below.refl _ _).drew ?_
             repeat (go_big_quiet_step (first | (go_at_call 68; first | (with_reducible exact class_call ST.out _ (W1.out _)) | (with_reducible exact class_call ST.out _ (W2.out _)) | (with_reducible exact class_call ST.out _ (W3.out _)))))
             refine wpQuiet_nil ?_
             rintro _ ⟨D, rfl⟩
             have hD : Below wr.heap.size wr D.world := D.holds
             go_wp2
             go_ret
             exact ⟨by rw [HM.out, E.out]; rfl, HB.out.trans (hD.mono HB.out.size)⟩
            ·skip
             by_cases r3 : u < 0
             ·by_cases r4 : u0 < 0
              ·skip
               have E := Lib.hid (CY.out (cnB_iff.2 ⟨plB_iff.1 g1, pnB_iff.1 g2, pnB_iff.1 g3, ⟨⟨fun _ => by omega, fun _ => by omega⟩, ⟨fun _ => by omega, fun _ => by omega⟩⟩⟩));clear CN CY YES g1 g2 g3
               refine wp_region_class (S := PastV wr) (by kernel_rfl) (by kernel_rfl) (Below.refl _ _).drew ?_
               repeat (go_big_quiet_step (first | (go_at_call 68; first | (with_reducible exact class_call ST.out _ (W1.out _)) | (with_reducible exact class_call ST.out _ (W2.out _)) | (with_reducible exact class_call ST.out _ (W3.out _)))))
               refine wpQuiet_nil ?_
               rintro _ ⟨D, rfl⟩
               have hD : Below wr.heap.size wr D.world := D.holds
               go_wp2
               go_roundw
               case rel => exact ⟨k + 1, by go_num, hl3, E.out, BV.out.trans (hD.mono BV.out.size)⟩
               case measure => simp [intOf]; omega
              ·skip
               have E : Hid (allB (fun i => trB n1 n2 n3 (FC i)) n4 = false) := by
                refine Lib.hid (CN.out ?_)
                cases e : cnB n1 n2 n3 v t u t0 u0 with
                | false => rfl
                | true =>
                 have y := (cnB_iff.1 e).2.2.2.2
                 omega
               clear CN CY YES
               refine wp_region_class (S := PastV wr) (by kernel_rfl) (by kernel_rfl) (Below.refl _ _).drew ?_
               repeat (go_big_quiet_step (first | (go_at_call 68; first | (with_reducible exact class_call ST.out _ (W1.out _)) | (with_reducible exact class_call ST.out _ (W2.out _)) | (with_reducible exact class_call ST.out _ (W3.out _)))))
               refine wpQuiet_nil ?_
               rintro _ ⟨D, rfl⟩
               have hD : Below wr.heap.size wr D.world := D.holds
               go_wp2
               go_ret
               exact ⟨by rw [HM.out, E.out]; rfl, HB.out.trans (hD.mono HB.out.size)⟩
             ·by_cases r4 : u0 < 0
              ·skip
               have E : Hid (allB (fun i => trB n1 n2 n3 (FC i)) n4 = false) := by
                refine Lib.hid (CN.out ?_)
                cases e : cnB n1 n2 n3 v t u t0 u0 with
                | false => rfl
                | true =>
                 have y := (cnB_iff.1 e).2.2.2.2
                 omega
               clear CN CY YES
               refine wp_region_class (S := PastV wr) (by kernel_rfl) (by kernel_rfl) (Below.refl _ _).drew ?_
               repeat (go_big_quiet_step (first | (go_at_call 68; first | (with_reducible exact class_call ST.out _ (W1.out _)) | (with_reducible exact class_call ST.out _ (W2.out _)) | (with_reducible exact class_call ST.out _ (W3.out _)))))
               refine wpQuiet_nil ?_
               rintro _ ⟨D, rfl⟩
               have hD : Below wr.heap.size wr D.world := D.holds
               go_wp2
               go_ret
               exact ⟨by rw [HM.out, E.out]; rfl, HB.out.trans (hD.mono HB.out.size)⟩
              ·skip
               have E := Lib.hid (CY.out (cnB_iff.2 ⟨plB_iff.1 g1, pnB_iff.1 g2, pnB_iff.1 g3, ⟨⟨fun _ => by omega, fun _ => by omega⟩, ⟨fun _ => by omega, fun _ => by omega⟩⟩⟩));clear CN CY YES g1 g2 g3
               refine wp_region_class (S := PastV wr) (by kernel_rfl) (by kernel_rfl) (Below.refl _ _).drew ?_
               repeat (go_big_quiet_step (first | (go_at_call 68; first | (with_reducible exact class_call ST.out _ (W1.out _)) | (with_reducible exact class_call ST.out _ (W2.out _)) | (with_reducible exact class_call ST.out _ (W3.out _)))))
               refine wpQuiet_nil ?_
               rintro _ ⟨D, rfl⟩
               have hD : Below wr.heap.size wr D.world := D.holds
               go_wp2
               go_roundw
               case rel => exact ⟨k + 1, by go_num, hl3, E.out, BV.out.trans (hD.mono BV.out.size)⟩
               case measure => simp [intOf]; omega
       ·obtain rfl : k = 3 := by omega
        have E := Lib.hid (YES.out (trB_iff.2 HS.out));have BZ := Lib.hid (BW2.out.trans (BV.out.mono BW2.out.size));clear YES NO
        go_wp2
        go_roundw
        case rel => exact ⟨i + 1, by go_num, hlt, E.out, BZ.out⟩
        case measure => simp [intOf]; omega
     ·obtain rfl : i = n4 := by omega
      go_wp2
      go_ret
      refine ⟨?_, HB.out⟩
      have e : allB (fun i => trB n1 n2 n3 (FC i)) i = true := allB_yes HR.out
      rw [HM.out, e]; rfl
end Go.Proofs.YtcnbbanpnoigdaaGreat
namespace Go.Proofs.YtcnbbanpnoigdaaGreat
open Go.RowKit

def nxL (F : Nat → Nat → Int) (i : Nat) : Nat → List Int
 | 0 => []
 | k + 1 => nxL F i k ++ (if nxB F i k then [(k : Int)] else [])
theorem nxL_len (F : Nat → Nat → Int) (i : Nat) : ∀ n, (nxL F i n).length ≤ n
 | 0 => Nat.le_refl 0
 | k + 1 => by
  have := nxL_len F i k
  show (nxL F i k ++ (if nxB F i k then [(k : Int)] else [])).length ≤ k + 1
  rw [List.length_append]
  split
  ·show _ + 1 ≤ _; omega
  ·show _ + 0 ≤ _; omega
def okN (r : Bool) (i : Int) (n : Nat) : Bool := r && plB i n
def nxA (t : Bool) (F : Nat → Nat → Int) (i : Int) (n : Nat) : List Int := if t then nxL F i.toNat n else []
def agE (t : Bool) : Int := if t then 0 else 1
set_option maxRecDepth 100000 in
set_option maxHeartbeats 16000000 in
theorem rnextL_any (pa1 pa2 pa3 pa4 : Option Addr) (n1 n2 n3 n4 c1 c2 c3 c4 : Nat) (FV FT FN FC : Nat → Nat → Int) (i : Int) (w : World) (hm : MsW w pa1 pa2 pa3 pa4 n1 n2 n3 n4 FV FT FN FC) :
  Calls Tryz.prog 41 #[.agg #[.slice pa1 n1 c1, .slice pa2 n2 c2, .slice pa3 n3 c3, .slice pa4 n4 c4], .int .i64 i] w fun e w' => (∃ v, e = .returned (.tuple #[v, .int .i64 (agE (okN (msB n1 n2 n3 n4 FV FT FN FC) i n4))]) ∧ OwnI w' w.heap.size v (nxA (okN (msB n1 n2 n3 n4 FV FT FN FC) i n4) FC i n4)) ∧ Below w.heap.size w w' := by
 have HB := Lib.hid (Below.refl w.heap.size w);have M := Lib.hid hm;have IS := Lib.hid (fun W (h : Below w.heap.size w W) => rmis_any pa1 pa2 pa3 pa4 n1 n2 n3 n4 c1 c2 c3 c4 FV FT FN FC W (hm.keep h));have bn4 := hm.2.2.2.2;clear hm;unfold okN
 cases hr : msB n1 n2 n3 n4 FV FT FN FC with
 | false =>
  rw [hr] at IS;clear hr;rw [Bool.false_and, show agE false = 1 from rfl, show nxA false FC i n4 = [] from rfl]
  go_enter Tryz.func41, Tryz.ntmps41
  go_upto_region 1 with fail
  have hbm := below_new1 w (.cells #[.slice pa1 n1 c1, .slice pa2 n2 c2, .slice pa3 n3 c3, .slice pa4 n4 c4] 26)
  have zm : (w.alloc (.cells #[.slice pa1 n1 c1, .slice pa2 n2 c2, .slice pa3 n3 c3, .slice pa4 n4 c4] 26)).heap.size = w.heap.size + 1 := by simp
  have HB := Lib.hid hbm;have km := Lib.hid (Lok.new w 26 #[.slice pa1 n1 c1, .slice pa2 n2 c2, .slice pa3 n3 c3, .slice pa4 n4 c4]);clear hbm;generalize w.alloc (.cells #[.slice pa1 n1 c1, .slice pa2 n2 c2, .slice pa3 n3 c3, .slice pa4 n4 c4] 26) = Vm at *;clear zm;have m0 := km.out.cell (i := 0) rfl;have m1 := km.out.cell (i := 1) rfl;have m2 := km.out.cell (i := 2) rfl;have m3 := km.out.cell (i := 3) rfl
  go_wp2_with fail
  clear m0 m1 m2 m3
  (((with_reducible refine (IS.out _ HB.out).mono ?_); rintro e w1 ⟨rfl, hb1⟩); replace HB := Lib.hid (HB.out.trans (hb1.mono HB.out.size)); replace km := Lib.hid (km.out.keep hb1); clear hb1)
  clear IS;clear km
  go_wp2
  go_ret2
  exact ⟨⟨_, rfl, OwnI.nil _ _⟩, HB.out⟩
 | true =>
  rw [hr] at IS
  have h500 : n4 ≤ 500 := by
   unfold msB at hr;rw [Bool.and_eq_true] at hr
   exact (shB_iff.1 hr.1).2
  clear hr;rw [Bool.true_and]
  by_cases p0 : 0 ≤ i
  case neg =>
   rw [plB_no p0, show agE false = 1 from rfl, show nxA false FC i n4 = [] from rfl]
   have p1 : i < 0 := by omega
   go_enter Tryz.func41, Tryz.ntmps41
   go_upto_region 1 with fail
   have hbm := below_new1 w (.cells #[.slice pa1 n1 c1, .slice pa2 n2 c2, .slice pa3 n3 c3, .slice pa4 n4 c4] 26)
   have zm : (w.alloc (.cells #[.slice pa1 n1 c1, .slice pa2 n2 c2, .slice pa3 n3 c3, .slice pa4 n4 c4] 26)).heap.size = w.heap.size + 1 := by simp
   have HB := Lib.hid hbm;have km := Lib.hid (Lok.new w 26 #[.slice pa1 n1 c1, .slice pa2 n2 c2, .slice pa3 n3 c3, .slice pa4 n4 c4]);clear hbm;generalize w.alloc (.cells #[.slice pa1 n1 c1, .slice pa2 n2 c2, .slice pa3 n3 c3, .slice pa4 n4 c4] 26) = Vm at *;clear zm;have m0 := km.out.cell (i := 0) rfl;have m1 := km.out.cell (i := 1) rfl;have m2 := km.out.cell (i := 2) rfl;have m3 := km.out.cell (i := 3) rfl
   go_wp2_with fail
   clear m0 m1 m2 m3
   (((with_reducible refine (IS.out _ HB.out).mono ?_); rintro e w1 ⟨rfl, hb1⟩); replace HB := Lib.hid (HB.out.trans (hb1.mono HB.out.size)); replace km := Lib.hid (km.out.keep hb1); clear hb1)
   clear IS;clear km
   go_wp2
   go_ret2
   exact ⟨⟨_, rfl, OwnI.nil _ _⟩, HB.out⟩
  by_cases p2 : i < n4
  case neg =>
   rw [plB_ge p0, decide_eq_false p2, show agE false = 1 from rfl, show nxA false FC i n4 = [] from rfl]
   have p1 : ¬ i < 0 := by omega
   have p3 : (n4 : Int) ≤ i := by omega
   go_enter Tryz.func41, Tryz.ntmps41
   go_upto_region 1 with fail
   have hbm := below_new1 w (.cells #[.slice pa1 n1 c1, .slice pa2 n2 c2, .slice pa3 n3 c3, .slice pa4 n4 c4] 26)
   have zm : (w.alloc (.cells #[.slice pa1 n1 c1, .slice pa2 n2 c2, .slice pa3 n3 c3, .slice pa4 n4 c4] 26)).heap.size = w.heap.size + 1 := by simp
   have HB := Lib.hid hbm;have km := Lib.hid (Lok.new w 26 #[.slice pa1 n1 c1, .slice pa2 n2 c2, .slice pa3 n3 c3, .slice pa4 n4 c4]);clear hbm;generalize w.alloc (.cells #[.slice pa1 n1 c1, .slice pa2 n2 c2, .slice pa3 n3 c3, .slice pa4 n4 c4] 26) = Vm at *;clear zm;have m0 := km.out.cell (i := 0) rfl;have m1 := km.out.cell (i := 1) rfl;have m2 := km.out.cell (i := 2) rfl;have m3 := km.out.cell (i := 3) rfl
   go_wp2_with fail
   clear m0 m1 m2 m3
   (((with_reducible refine (IS.out _ HB.out).mono ?_); rintro e w1 ⟨rfl, hb1⟩); replace HB := Lib.hid (HB.out.trans (hb1.mono HB.out.size)); replace km := Lib.hid (km.out.keep hb1); clear hb1)
   clear IS;have m0 := km.out.cell (i := 0) rfl;have m1 := km.out.cell (i := 1) rfl;have m2 := km.out.cell (i := 2) rfl;have m3 := km.out.cell (i := 3) rfl;clear m0 m1 m2
   go_wp2
   go_ret2
   exact ⟨⟨_, rfl, OwnI.nil _ _⟩, HB.out⟩
  rw [plB_ge p0, decide_eq_true p2, show agE true = 0 from rfl, show nxA true FC i n4 = nxL FC i.toNat n4 from rfl]
  have p1 : ¬ i < 0 := by omega
  have p3 : ¬ (n4 : Int) ≤ i := by omega
  obtain ⟨j, rfl⟩ : ∃ j : Nat, i = (j : Int) := ⟨i.toNat, by omega⟩;rw [show ((j : Int)).toNat = j from by omega]
  have hj : j < n4 := by omega
  have p4 : ¬ n4 ≤ j := by omega
  have NX := Lib.hid (fun k (hk : k < n4) W (h : Below w.heap.size w W) => rnext_any pa1 pa2 pa3 pa4 n1 n2 n3 n4 c1 c2 c3 c4 FV FT FN FC j k W (M.out.keep h) hj hk);clear M
  go_enter Tryz.func41, Tryz.ntmps41
  go_upto_region 1 with fail
  have hbm := below_new1 w (.cells #[.slice pa1 n1 c1, .slice pa2 n2 c2, .slice pa3 n3 c3, .slice pa4 n4 c4] 26)
  have zm : (w.alloc (.cells #[.slice pa1 n1 c1, .slice pa2 n2 c2, .slice pa3 n3 c3, .slice pa4 n4 c4] 26)).heap.size = w.heap.size + 1 := by simp
  have HB := Lib.hid hbm;have km := Lib.hid (Lok.new w 26 #[.slice pa1 n1 c1, .slice pa2 n2 c2, .slice pa3 n3 c3, .slice pa4 n4 c4]);clear hbm;generalize w.alloc (.cells #[.slice pa1 n1 c1, .slice pa2 n2 c2, .slice pa3 n3 c3, .slice pa4 n4 c4] 26) = Vm at *;clear zm;have m0 := km.out.cell (i := 0) rfl;have m1 := km.out.cell (i := 1) rfl;have m2 := km.out.cell (i := 2) rfl;have m3 := km.out.cell (i := 3) rfl
  go_wp2_with fail
  clear m0 m1 m2 m3
  (((with_reducible refine (IS.out _ HB.out).mono ?_); rintro e w1 ⟨rfl, hb1⟩); replace HB := Lib.hid (HB.out.trans (hb1.mono HB.out.size)); replace km := Lib.hid (km.out.keep hb1); clear hb1)
  clear IS;have km0 := km;have HB0 := HB;clear km HB;have m3 := km0.out.cell (i := 3) rfl
  go_wp2_with fail
  clear m3 p1 p3 p0 p2 p4
  go_loopw [6, 7] (fun v x wr => ∃ k : Nat, x = .int .i64 k ∧ k ≤ n4 ∧ OwnI wr w1.heap.size v (nxL FC j k) ∧ Below w1.heap.size w1 wr) (fun _ x _ => n4 - (intOf x).toNat)
  case atStart => exact ⟨0, rfl, Nat.zero_le _, OwnI.nil _ _, Below.refl _ _⟩
  case round =>
   obtain ⟨k, rfl, hk, hO, hB⟩ := hrel;have HB := Lib.hid (HB0.out.trans (hB.mono HB0.out.size));have BW := Lib.hid hB;have km := Lib.hid (km0.out.keep hB);have OW := Lib.hid hO;clear hB hO;have m3 := km.out.cell (i := 3) rfl
   by_cases hlt : k < n4
   ·have NK := Lib.hid (NX.out k hlt)
    have m0 := km.out.cell (i := 0) rfl;have m1 := km.out.cell (i := 1) rfl;have m2 := km.out.cell (i := 2) rfl
    have i0 : (0 : Int) ≤ (k : Int) := by omega
    have i1 : (k : Int) < (n4 : Int) := by omega
    have LE : Hid (nxL FC j (k + 1) = nxL FC j k ++ (if nxB FC j k then [(k : Int)] else [])) := Lib.hid rfl;have ln := nxL_len FC j k
    go_wp2_with fail
    ((with_reducible refine (NK.out _ HB.out).mono ?_); rintro e w5 ⟨rfl, hb5⟩);replace HB := Lib.hid (HB.out.trans (hb5.mono HB.out.size));replace BW := Lib.hid (BW.out.trans (hb5.mono BW.out.size));replace OW := Lib.hid (OW.out.keep hb5);clear hb5 NK m0 m1 m2 m3 km
    cases hq : nxB FC j k with
    | false =>
     rw [hq] at LE;have E : Hid (nxL FC j (k + 1) = nxL FC j k) := Lib.hid (by rw [LE.out]; exact List.append_nil _);clear LE
     go_wp2_with fail
     go_roundw
     case rel => exact ⟨k + 1, by go_num, hlt, by rw [E.out]; exact OW.out, BW.out⟩
     case measure => simp [intOf]; omega
    | true =>
     rw [hq] at LE;have E : Hid (nxL FC j (k + 1) = nxL FC j k ++ [(k : Int)]) := Lib.hid (by rw [LE.out]; rfl);clear LE;generalize nxL FC j k = L at *;generalize hL2 : nxL FC j (k + 1) = L2 at *;have HL2 := Lib.hid hL2;clear hL2
     have hk1 : (L.length + 1) * 8 ≤ 140737488355328 := by omega
     have hk2 : L.length ≤ 1000000 := by omega
     have hbs := BW.out.size;have hO := OW.out;unfold OwnI at hO
     go_wp2_with (at_builtin; refine app_one rfl _ _ 27 3 (.int .i64 0) 1 8 Tryz.underlying27 infoI rfl (by decide) rfl w1.heap.size u6 L.length (L.map (Value.int .i64)) [.int .i64 (k : Int)] rfl (fun u hu => by rw [List.mem_singleton] at hu; subst hu; rfl) rfl hO rfl hk1 hk2 hbs ?_)
     intro v2 w6 own6 hb6
     have OW2 : Hid (OwnI w6 w1.heap.size v2 L2) := Lib.hid (by
      rw [E.out];unfold OwnI;rw [List.length_append, List.map_append]
      exact own6)
     replace BW := Lib.hid (BW.out.trans hb6);clear own6 hb6 OW hO
     go_wp2
     go_roundw
     case rel => exact ⟨k + 1, by go_num, hlt, by rw [HL2.out]; exact OW2.out, BW.out⟩
     case measure => simp [intOf]; omega
   ·obtain rfl : k = n4 := by omega
    have HO := Lib.hid (ownI_mono OW.out HB0.out.size)
    go_wp2
    go_ret2
    exact ⟨⟨_, rfl, HO.out⟩, HB.out⟩
end Go.Proofs.YtcnbbanpnoigdaaGreat
namespace Go.Proofs.YtcnbbanpnoigdaaGreat
open Go.RowKit

end Go.Proofs.YtcnbbanpnoigdaaGreat
namespace Go.Proofs.YtcnbbanpnoigdaaGreat

def tvB (FV : Nat → Nat → Int) (n : Nat) : Bool := allB (fun i => sB 4096 (FV i 0) && (sB 4096 (FV i 1) && sB 4096 (FV i 2))) n
def tmB (n1 n2 n3 n4 : Nat) (FV FT FN FC : Nat → Nat → Int) : Bool := tvB FV n1 && msB n1 n2 n3 n4 FV FT FN FC
def pp (FV FC : Nat → Nat → Int) (i k j : Nat) : Int := FV (FC i (k * 3)).toNat j
def nmA (FV FC : Nat → Nat → Int) (i : Nat) : Int := ar (pp FV FC i 0 1) (pp FV FC i 0 2) (pp FV FC i 1 1) (pp FV FC i 1 2) (pp FV FC i 2 1) (pp FV FC i 2 2)
def nmB (FV FC : Nat → Nat → Int) (i : Nat) : Int := ar (pp FV FC i 0 2) (pp FV FC i 0 0) (pp FV FC i 1 2) (pp FV FC i 1 0) (pp FV FC i 2 2) (pp FV FC i 2 0)
def nmC (FV FC : Nat → Nat → Int) (i : Nat) : Int := ar (pp FV FC i 0 0) (pp FV FC i 0 1) (pp FV FC i 1 0) (pp FV FC i 1 1) (pp FV FC i 2 0) (pp FV FC i 2 1)
def shX (FV FC : Nat → Nat → Int) (ax i k : Nat) : Int := dX (pp FV FC i k 0) (pp FV FC i k 1) (pp FV FC i k 2) ax
def shY (FV FC : Nat → Nat → Int) (ax i k : Nat) : Int := dY (pp FV FC i k 0) (pp FV FC i k 1) (pp FV FC i k 2) ax
def shR (FV FC : Nat → Nat → Int) (ax i : Nat) : Bool := rT (shX FV FC ax i 0) (shY FV FC ax i 0) (shX FV FC ax i 1) (shY FV FC ax i 1) (shX FV FC ax i 2) (shY FV FC ax i 2)
def shM (FV FC : Nat → Nat → Int) (ax i k : Nat) : Int := mu (shX FV FC ax i 0) (shY FV FC ax i 0) (shX FV FC ax i 1) (shY FV FC ax i 1) (shX FV FC ax i 2) (shY FV FC ax i 2) (shX FV FC ax k 0) (shY FV FC ax k 0) (shX FV FC ax k 1) (shY FV FC ax k 1) (shX FV FC ax k 2) (shY FV FC ax k 2)
def ovB (FV FC : Nat → Nat → Int) (ax i k : Nat) : Bool := mV (shR FV FC ax i && shR FV FC ax k) (shM FV FC ax i k) == 1
def chF (t : Bool) (n : Nat) (FV FC : Nat → Nat → Int) : ChF where
 n := n
 A i := vF (t && plB i n) (fcA true (nmA FV FC i.toNat) (nmB FV FC i.toNat) (nmC FV FC i.toNat))
 S i := vF (t && plB i n) (fcS true (nmA FV FC i.toNat) (nmB FV FC i.toNat) (nmC FV FC i.toNat))
 K i := (t && plB i n) && (fcE true (nmA FV FC i.toNat) (nmB FV FC i.toNat) (nmC FV FC i.toNat) == 0)
 ov ax i k := ovB FV FC ax.toNat i.toNat k.toNat
 nx i k := isIn (nxA (okN t i n) FC i n) k
theorem fcE_ok {a b c : Int} (h : (fcE true a b c == 0) = true) : q3 a b c 0 0 0 = false := by
 cases q : q3 a b c 0 0 0 with
 | false => rfl
 | true => unfold fcE at h; rw [if_pos rfl, if_pos q] at h; cases h
theorem fcA_at {a b c : Int} (h : q3 a b c 0 0 0 = false) : fcA true a b c = (axF a b c 3 : Int) := by unfold fcA; rw [if_pos ⟨rfl, h⟩]
theorem axF_3 (a b c : Int) : axF a b c 3 < 3 := by have := axF_lt a b c 3; omega
end Go.Proofs.YtcnbbanpnoigdaaGreat
