import Derived.Test.YtcnbbanpnoigdaaGreatHm
import Derived.Test.YtcnbbanpnoigdaaGreatHi
import Derived.Test.YtcnbbanpnoigdaaGreatHd
import Derived.BigQuiet
import Derived.Test.YtcnbbanpnoigdaaGreatHg
import Derived.Test.YtcnbbanpnoigdaaGreatHh
namespace Go.Proofs.YtcnbbanpnoigdaaGreat
open Go.RowKit

set_option maxRecDepth 100000 in
set_option maxHeartbeats 16000000 in
theorem rsame_charts (a b : Option Addr) (n m c d : Nat) (L M : List (Int × Int × List Int)) (w : World) (hl : RowC w a n L) (hm : RowC w b m M) (hn : n ≤ 9223372036854775806) (hk : m ≤ 9223372036854775806) :
  Calls Tryz.prog 12 #[.slice a n c, .slice b m d] w fun e w' => e = .returned (.bool (seB L M)) ∧ Below w.heap.size w w' := by
 have HB := Lib.hid (Below.refl w.heap.size w);have hll := Lib.hid hl.1;have hml := Lib.hid hm.1
 by_cases hnm : n = m
 ·subst hnm
  have RL := Lib.hid hl;have RM := Lib.hid hm;clear hl hm
  go_enter Tryz.func12, Tryz.ntmps12
  go_wp2_with fail
  go_loopw [5] (fun x wr => ∃ k : Nat, x = .int .i64 k ∧ k ≤ n ∧ (∀ j, j < k → L[j]? = M[j]?) ∧ Below w.heap.size w wr) (fun x _ => n - (intOf x).toNat)
  case atStart => exact ⟨0, rfl, Nat.zero_le _, fun j h => absurd h (by omega), HB.out⟩
  case round =>
   clear HB;obtain ⟨k, rfl, hk', hR, hB⟩ := hrel;have HB := Lib.hid hB;have HR := Lib.hid hR;clear hB hR
   by_cases hlt : k < n
   ·obtain ⟨p, o, t, m1, ct, x, y, l, rfl, hb, hL, hx, hy, hz, hr, -, hmc1, hcm⟩ := (RL.out.keep HB.out).at hlt
    obtain ⟨p2, o2, t2, m2, ct2, x2, y2, l2, rfl, hb2, hL2, hx2, hy2, hz2, hr2, -, hmc2, hcm2⟩ := (RM.out.keep HB.out).at hlt
    have YES : Hid ((x, y, l) = (x2, y2, l2) → ∀ j, j < k + 1 → L[j]? = M[j]?) := Lib.hid (fun e j hj => by
     by_cases s : j = k
     ·rw [s, hL, hL2, e]
     ·exact HR.out j (by omega))
    have NO : Hid (¬ (x, y, l) = (x2, y2, l2) → seB L M = false) := Lib.hid (fun e => se_no hL hL2 e);have SM := Lib.hid (fun D : Of (PastV wr) => rsame_list t t2 m1 m2 ct ct2 l l2 D.world (hr.keep (show Below wr.heap.size wr D.world from D.holds)) (hr2.keep (show Below wr.heap.size wr D.world from D.holds)) (by omega) (by omega));rw [← Nat.add_assoc] at hy hz hy2 hz2;have d0 : ∀ D : Of (PastV wr), _ := fun D => keepc (show Below wr.heap.size wr D.world from D.holds) hx;have d1 : ∀ D : Of (PastV wr), _ := fun D => keepc (show Below wr.heap.size wr D.world from D.holds) hy;have d2 : ∀ D : Of (PastV wr), _ := fun D => keepc (show Below wr.heap.size wr D.world from D.holds) hz;have e0 : ∀ D : Of (PastV wr), _ := fun D => keepc (show Below wr.heap.size wr D.world from D.holds) hx2;have e1 : ∀ D : Of (PastV wr), _ := fun D => keepc (show Below wr.heap.size wr D.world from D.holds) hy2;have e2 : ∀ D : Of (PastV wr), _ := fun D => keepc (show Below wr.heap.size wr D.world from D.holds) hz2;clear hL hL2 hx hy hz hx2 hy2 hz2 hr hr2 hmc1 hmc2 hcm hcm2;have ST := Lib.hid (pastV_stays wr);have ne : Nonempty (Of (PastV wr)) := ⟨⟨wr, Below.refl _ _⟩⟩
    have i0 : (0 : Int) ≤ (k : Int) := by omega
    have i1 : (k : Int) < (n : Int) := by omega
    have i2 : ((k : Int)).toNat = k := by omega
    go_upto_region 6 with fail
    by_cases g1 : x = x2
    ·subst g1
     by_cases g2 : y = y2
     ·subst g2
      cases g3 : smB l l2 with
      | false =>
       have E := Lib.hid (NO.out (by intro e; have := (Prod.mk.inj (Prod.mk.inj e).2).2; rw [this, smB_self] at g3; cases g3));rw [g3] at SM;clear YES NO g3
       refine wp_region_class (S := PastV wr) (by kernel_rfl) (by kernel_rfl) (Below.refl _ _).drew ?_
       repeat (go_big_quiet_step (first | (go_at_call 34; first | (with_reducible exact class_call ST.out _ (SM.out _)))))
       refine wpQuiet_nil ?_
       rintro _ ⟨D, rfl⟩
       have hD : Below wr.heap.size wr D.world := D.holds
       go_wp2
       go_ret
       exact ⟨by rw [E.out]; rfl, HB.out.trans (hD.mono HB.out.size)⟩
      | true =>
       have E := Lib.hid (YES.out (by rw [of_decide_eq_true g3]));rw [g3] at SM;clear YES NO g3
       refine wp_region_class (S := PastV wr) (by kernel_rfl) (by kernel_rfl) (Below.refl _ _).drew ?_
       repeat (go_big_quiet_step (first | (go_at_call 34; first | (with_reducible exact class_call ST.out _ (SM.out _)))))
       refine wpQuiet_nil ?_
       rintro _ ⟨D, rfl⟩
       have hD : Below wr.heap.size wr D.world := D.holds
       go_wp2
       go_roundw
       case rel => exact ⟨k + 1, by go_num, hlt, E.out, HB.out.trans (hD.mono HB.out.size)⟩
       case measure => simp [intOf]; omega
     ·have ng2 : (y == y2) = false := by rw [beq_eq_false_iff_ne]; exact g2
      have mg2 : (y != y2) = true := by rw [bne, ng2]; rfl
      have E := Lib.hid (NO.out (by intro e; exact g2 (Prod.mk.inj (Prod.mk.inj e).2).1));clear YES NO
      refine wp_region_class (S := PastV wr) (by kernel_rfl) (by kernel_rfl) (Below.refl _ _).drew ?_
      repeat (go_big_quiet_step (first | (go_at_call 34; first | (with_reducible exact class_call ST.out _ (SM.out _)))))
      refine wpQuiet_nil ?_
      rintro _ ⟨D, rfl⟩
      have hD : Below wr.heap.size wr D.world := D.holds
      go_wp2
      go_ret
      exact ⟨by rw [E.out]; rfl, HB.out.trans (hD.mono HB.out.size)⟩
    ·have ng1 : (x == x2) = false := by rw [beq_eq_false_iff_ne]; exact g1
     have mg1 : (x != x2) = true := by rw [bne, ng1]; rfl
     have E := Lib.hid (NO.out (by intro e; exact g1 (Prod.mk.inj e).1));clear YES NO
     refine wp_region_class (S := PastV wr) (by kernel_rfl) (by kernel_rfl) (Below.refl _ _).drew ?_
     repeat (go_big_quiet_step (first | (go_at_call 34; first | (with_reducible exact class_call ST.out _ (SM.out _)))))
     refine wpQuiet_nil ?_
     rintro _ ⟨D, rfl⟩
     have hD : Below wr.heap.size wr D.world := D.holds
     go_wp2
     go_ret
     exact ⟨by rw [E.out]; rfl, HB.out.trans (hD.mono HB.out.size)⟩
   ·obtain rfl : k = n := by omega
    have E : Hid (seB L M = true) := Lib.hid (decide_eq_true (by
     apply List.ext_getElem?
     intro i
     rcases Nat.lt_or_ge i k with h | h
     ·exact HR.out i h
     ·rw [List.getElem?_eq_none (by have := hll.out; omega), List.getElem?_eq_none (by have := hml.out; omega)]))
    go_wp2
    go_ret
    exact ⟨by rw [E.out]; rfl, HB.out⟩
 ·have E : Hid (seB L M = false) := Lib.hid (decide_eq_false (fun h => hnm (by rw [← hll.out, ← hml.out, h])))
  have h1 : ¬ (n : Int) = (m : Int) := by omega
  have h2 : ((n : Int) == (m : Int)) = false := by rw [beq_eq_false_iff_ne]; exact h1
  clear hl hm
  go_enter Tryz.func12, Tryz.ntmps12
  go_wp2
  go_ret
  exact ⟨by rw [E.out]; rfl, HB.out⟩
end Go.Proofs.YtcnbbanpnoigdaaGreat
namespace Go.Proofs.YtcnbbanpnoigdaaGreat
open Go.RowKit

theorem own_cat0 {w : World} {base n k : Nat} {e : TypeId} {v : Value} {F G : Nat → Nat → Int} (h : w.ownsRow base e k v n (valsK n k (catK 0 G F))) : w.ownsRow base e k v n (valsK n k F) := by
 rwa [valsK_congr (G := F) (fun i hi j _ => by rw [catK_hi _ _ _ (Nat.zero_le _), Nat.sub_zero])] at h
theorem infoV3 : (Tryz.prog.info? 57).map (fun i => (i.zero, i.size, i.bytes)) = some (some (.agg #[.int .i64 0, .int .i64 0, .int .i64 0]), 3, 24) := by kernel_rfl
theorem infoV2 : (Tryz.prog.info? 36).map (fun i => (i.zero, i.size, i.bytes)) = some (some (.agg #[.int .i64 0, .int .i64 0]), 2, 16) := by kernel_rfl
theorem infoT9 : (Tryz.prog.info? 88).map (fun i => (i.zero, i.size, i.bytes)) = some (some (.agg #[.int .i64 0, .int .i64 0, .int .i64 0, .int .i64 0, .int .i64 0, .int .i64 0, .int .i64 0, .int .i64 0, .int .i64 0]), 9, 72) := by kernel_rfl
def OwM (W : World) (B : Nat) (v1 v2 v3 v4 : Value) (n1 n2 n3 n4 : Nat) (FV FT FN FC : Nat → Nat → Int) : Prop := W.ownsRow B 57 3 v1 n1 (valsK n1 3 FV) ∧ W.ownsRow B 36 2 v2 n2 (valsK n2 2 FT) ∧ W.ownsRow B 57 3 v3 n3 (valsK n3 3 FN) ∧ W.ownsRow B 88 9 v4 n4 (valsK n4 9 FC)
set_option maxRecDepth 100000 in
set_option maxHeartbeats 16000000 in
theorem rown08_any (pa1 pa2 pa3 pa4 : Option Addr) (n1 n2 n3 n4 c1 c2 c3 c4 : Nat) (FV FT FN FC : Nat → Nat → Int) (w : World) (hm : MsW w pa1 pa2 pa3 pa4 n1 n2 n3 n4 FV FT FN FC) (hz : (pa1 = none → n1 = 0 ∧ c1 = 0) ∧ (pa2 = none → n2 = 0 ∧ c2 = 0) ∧ (pa3 = none → n3 = 0 ∧ c3 = 0) ∧ (pa4 = none → n4 = 0 ∧ c4 = 0)) (hs : n1 ≤ 60 ∧ n2 ≤ 60 ∧ n3 ≤ 60 ∧ n4 ≤ 60) :
  Calls Tryz.prog 5 #[.agg #[.slice pa1 n1 c1, .slice pa2 n2 c2, .slice pa3 n3 c3, .slice pa4 n4 c4]] w fun e w' => (∃ v1 v2 v3 v4, e = .returned (.agg #[v1, v2, v3, v4]) ∧ OwM w' w.heap.size v1 v2 v3 v4 n1 n2 n3 n4 FV FT FN FC) ∧ Below w.heap.size w w' := by
 have HB := Lib.hid (Below.refl w.heap.size w);have M := Lib.hid hm;have HZ := Lib.hid hz;obtain ⟨s1, s2, s3, s4⟩ := hs;clear hm hz
 go_enter Tryz.func5, Tryz.ntmps5
 go_upto_region 1 with fail
 have hbm := below_new1 w (.cells #[.slice pa1 n1 c1, .slice pa2 n2 c2, .slice pa3 n3 c3, .slice pa4 n4 c4] 26)
 have zm : (w.alloc (.cells #[.slice pa1 n1 c1, .slice pa2 n2 c2, .slice pa3 n3 c3, .slice pa4 n4 c4] 26)).heap.size = w.heap.size + 1 := by simp
 have HB := Lib.hid hbm;have km := Lib.hid (Lok.new w 26 #[.slice pa1 n1 c1, .slice pa2 n2 c2, .slice pa3 n3 c3, .slice pa4 n4 c4]);clear hbm;generalize w.alloc (.cells #[.slice pa1 n1 c1, .slice pa2 n2 c2, .slice pa3 n3 c3, .slice pa4 n4 c4] 26) = Vm at *;have hbr := below_new1 Vm (.cells #[.slice none 0 0, .slice none 0 0, .slice none 0 0, .slice none 0 0] 26);replace km := Lib.hid (km.out.keep hbr)
 have zr : (Vm.alloc (.cells #[.slice none 0 0, .slice none 0 0, .slice none 0 0, .slice none 0 0] 26)).heap.size = Vm.heap.size + 1 := by simp
 replace HB := Lib.hid (HB.out.trans (hbr.mono HB.out.size));have kr := Lib.hid (Lok.new Vm 26 #[.slice none 0 0, .slice none 0 0, .slice none 0 0, .slice none 0 0]);clear hbr;generalize Vm.alloc (.cells #[.slice none 0 0, .slice none 0 0, .slice none 0 0, .slice none 0 0] 26) = Vr at *;rw [zm] at kr zr
 have hgr : w.heap.size + 1 + 1 ≤ Vr.heap.size := by rw [zr]; exact Nat.le_refl _
 clear zm zr
 go_upto_region 2 with fail
 have BW := Lib.hid ((Below.refl Vr.heap.size Vr).alloc (Nat.le_refl _) (.cells #[.slice none 0 0, .slice none 0 0, .slice none 0 0, .slice none 0 0] 26));have KM := Lib.hid (fun W (h : Below Vr.heap.size Vr W) => km.out.keep h);have KR := Lib.hid (fun W (h : Below Vr.heap.size Vr W) => kr.out.keep h);have MM := Lib.hid (fun W (h : Below Vr.heap.size Vr W) => M.out.keep (HB.out.trans (h.mono HB.out.size)));have HBW := Lib.hid (fun W (h : Below Vr.heap.size Vr W) => HB.out.trans (h.mono HB.out.size));have hbz := below_new1 Vr (.cells #[.slice none 0 0, .slice none 0 0, .slice none 0 0, .slice none 0 0] 26)
 have zz : (Vr.alloc (.cells #[.slice none 0 0, .slice none 0 0, .slice none 0 0, .slice none 0 0] 26)).heap.size = Vr.heap.size + 1 := by simp
 replace HB := Lib.hid (HB.out.trans (hbz.mono HB.out.size));have kz := Lib.hid (Lok.new Vr 26 #[.slice none 0 0, .slice none 0 0, .slice none 0 0, .slice none 0 0]);clear hbz;generalize Vr.alloc (.cells #[.slice none 0 0, .slice none 0 0, .slice none 0 0, .slice none 0 0] 26) = Vz at *
 have hsz : Vr.heap.size + 1 ≤ Vz.heap.size := by rw [zz]; exact Nat.le_refl _
 clear zz km kr M HB;generalize Vr.heap.size = gz at *;obtain ⟨iI1, hI1, hy1, hu1, hv1⟩ := info_parts infoV3;have z0 := kz.out.cell (i := 0) rfl;have z1 := kz.out.cell (i := 1) rfl;have z2 := kz.out.cell (i := 2) rfl;have z3 := kz.out.cell (i := 3) rfl;have m0 := (KM.out _ BW.out).cell (i := 0) rfl;have q1 : Hid (0 + n1 ≤ maxLen) := Lib.hid (by unfold maxLen; omega);have q2 : Hid ((0 + n1) * 24 ≤ 140737488355328) := Lib.hid (by omega);have HR := Lib.hid (MM.out _ BW.out).1.1
 go_wp2_with (at_builtin; refine wpList_append_catk rfl _ _ 22 rfl Vz.heap.size 57 iI1 _ 3 24 Tryz.underlying22 hI1 hy1 hu1 hv1 rfl (by decide) (.slice none 0 0) 0 (fun _ _ => 0) rfl (World.ownsRow_nil _ _ _ _) pa1 n1 c1 FV rfl (HZ.out.1) HR.out q1.out q2.out (Nat.le_refl _) ?_)
 intro va1 wa1 own1 hba1
 have O1 := Lib.hid (ownR_mono (own_cat0 own1) hsz);replace kz := Lib.hid (kz.out.keep hba1);replace BW := Lib.hid (BW.out.trans (hba1.mono (by omega)));have hsa1 := hba1.size;obtain ⟨as1, cs1, rfl, -, -, -, -⟩ := rowK_of_own O1.out;clear own1 hba1 q1 q2 HR z0 z1 z2 z3 m0;have z0 := kz.out.cell (i := 0) rfl;have z1 := kz.out.cell (i := 1) rfl;have z2 := kz.out.cell (i := 2) rfl;have z3 := kz.out.cell (i := 3) rfl;have f0 := kz.out.frozen 0
 go_upto_region 3 with fail
 replace O1 := Lib.hid (ownsRow_setCell_below O1.out (a := ⟨gz, 0, none⟩) (by show gz < _; omega) (.slice as1 n1 cs1));replace kz : Hid (Lok (wa1.setCell ⟨gz, 0, none⟩ (.slice as1 n1 cs1)) gz 26 #[.slice as1 n1 cs1, .slice none 0 0, .slice none 0 0, .slice none 0 0]) := Lib.hid (kz.out.set (i := 0) (v := .slice as1 n1 cs1));replace BW := Lib.hid (BW.out.setCell (p := ⟨gz, 0, none⟩) (Nat.le_refl _) (.slice as1 n1 cs1))
 have hz1 : wa1.heap.size = (wa1.setCell ⟨gz, 0, none⟩ (.slice as1 n1 cs1)).heap.size := by simp
 replace hsz : gz + 1 ≤ (wa1.setCell ⟨gz, 0, none⟩ (.slice as1 n1 cs1)).heap.size := by rw [← hz1]; omega
 clear z0 z1 z2 z3 f0 hsa1;generalize wa1.setCell ⟨gz, 0, none⟩ (.slice as1 n1 cs1) = W1 at *;clear hz1;obtain ⟨iI2, hI2, hy2, hu2, hv2⟩ := info_parts infoV2;have z0 := kz.out.cell (i := 0) rfl;have z1 := kz.out.cell (i := 1) rfl;have z2 := kz.out.cell (i := 2) rfl;have z3 := kz.out.cell (i := 3) rfl;have m1 := (KM.out _ BW.out).cell (i := 1) rfl;have q1 : Hid (0 + n2 ≤ maxLen) := Lib.hid (by unfold maxLen; omega);have q2 : Hid ((0 + n2) * 16 ≤ 140737488355328) := Lib.hid (by omega);have HR := Lib.hid (MM.out _ BW.out).1.2.1
 go_wp2_with (at_builtin; refine wpList_append_catk rfl _ _ 23 rfl W1.heap.size 36 iI2 _ 2 16 Tryz.underlying23 hI2 hy2 hu2 hv2 rfl (by decide) (.slice none 0 0) 0 (fun _ _ => 0) rfl (World.ownsRow_nil _ _ _ _) pa2 n2 c2 FT rfl (HZ.out.2.1) HR.out q1.out q2.out (Nat.le_refl _) ?_)
 intro va2 wa2 own2 hba2
 have O2 := Lib.hid (ownR_mono (own_cat0 own2) hsz);replace O1 := Lib.hid (ownK_keep O1.out hba2);replace kz := Lib.hid (kz.out.keep hba2);replace BW := Lib.hid (BW.out.trans (hba2.mono (by omega)));have hsa2 := hba2.size;obtain ⟨as2, cs2, rfl, -, -, -, -⟩ := rowK_of_own O2.out;clear own2 hba2 q1 q2 HR z0 z1 z2 z3 m1;have z0 := kz.out.cell (i := 0) rfl;have z1 := kz.out.cell (i := 1) rfl;have z2 := kz.out.cell (i := 2) rfl;have z3 := kz.out.cell (i := 3) rfl;have f1 := kz.out.frozen 1
 go_upto_region 4 with fail
 replace O1 := Lib.hid (ownsRow_setCell_below O1.out (a := ⟨gz, 1, none⟩) (by show gz < _; omega) (.slice as2 n2 cs2));replace O2 := Lib.hid (ownsRow_setCell_below O2.out (a := ⟨gz, 1, none⟩) (by show gz < _; omega) (.slice as2 n2 cs2));replace kz : Hid (Lok (wa2.setCell ⟨gz, 1, none⟩ (.slice as2 n2 cs2)) gz 26 #[.slice as1 n1 cs1, .slice as2 n2 cs2, .slice none 0 0, .slice none 0 0]) := Lib.hid (kz.out.set (i := 1) (v := .slice as2 n2 cs2));replace BW := Lib.hid (BW.out.setCell (p := ⟨gz, 1, none⟩) (Nat.le_refl _) (.slice as2 n2 cs2))
 have hz2 : wa2.heap.size = (wa2.setCell ⟨gz, 1, none⟩ (.slice as2 n2 cs2)).heap.size := by simp
 replace hsz : gz + 1 ≤ (wa2.setCell ⟨gz, 1, none⟩ (.slice as2 n2 cs2)).heap.size := by rw [← hz2]; omega
 clear z0 z1 z2 z3 f1 hsa2;generalize wa2.setCell ⟨gz, 1, none⟩ (.slice as2 n2 cs2) = W2 at *;clear hz2;obtain ⟨iI3, hI3, hy3, hu3, hv3⟩ := info_parts infoV3;have z0 := kz.out.cell (i := 0) rfl;have z1 := kz.out.cell (i := 1) rfl;have z2 := kz.out.cell (i := 2) rfl;have z3 := kz.out.cell (i := 3) rfl;have m2 := (KM.out _ BW.out).cell (i := 2) rfl;have q1 : Hid (0 + n3 ≤ maxLen) := Lib.hid (by unfold maxLen; omega);have q2 : Hid ((0 + n3) * 24 ≤ 140737488355328) := Lib.hid (by omega);have HR := Lib.hid (MM.out _ BW.out).1.2.2.1
 go_wp2_with (at_builtin; refine wpList_append_catk rfl _ _ 22 rfl W2.heap.size 57 iI3 _ 3 24 Tryz.underlying22 hI3 hy3 hu3 hv3 rfl (by decide) (.slice none 0 0) 0 (fun _ _ => 0) rfl (World.ownsRow_nil _ _ _ _) pa3 n3 c3 FN rfl (HZ.out.2.2.1) HR.out q1.out q2.out (Nat.le_refl _) ?_)
 intro va3 wa3 own3 hba3
 have O3 := Lib.hid (ownR_mono (own_cat0 own3) hsz);replace O1 := Lib.hid (ownK_keep O1.out hba3);replace O2 := Lib.hid (ownK_keep O2.out hba3);replace kz := Lib.hid (kz.out.keep hba3);replace BW := Lib.hid (BW.out.trans (hba3.mono (by omega)));have hsa3 := hba3.size;obtain ⟨as3, cs3, rfl, -, -, -, -⟩ := rowK_of_own O3.out;clear own3 hba3 q1 q2 HR z0 z1 z2 z3 m2;have z0 := kz.out.cell (i := 0) rfl;have z1 := kz.out.cell (i := 1) rfl;have z2 := kz.out.cell (i := 2) rfl;have z3 := kz.out.cell (i := 3) rfl;have f2 := kz.out.frozen 2
 go_upto_region 5 with fail
 replace O1 := Lib.hid (ownsRow_setCell_below O1.out (a := ⟨gz, 2, none⟩) (by show gz < _; omega) (.slice as3 n3 cs3));replace O2 := Lib.hid (ownsRow_setCell_below O2.out (a := ⟨gz, 2, none⟩) (by show gz < _; omega) (.slice as3 n3 cs3));replace O3 := Lib.hid (ownsRow_setCell_below O3.out (a := ⟨gz, 2, none⟩) (by show gz < _; omega) (.slice as3 n3 cs3));replace kz : Hid (Lok (wa3.setCell ⟨gz, 2, none⟩ (.slice as3 n3 cs3)) gz 26 #[.slice as1 n1 cs1, .slice as2 n2 cs2, .slice as3 n3 cs3, .slice none 0 0]) := Lib.hid (kz.out.set (i := 2) (v := .slice as3 n3 cs3));replace BW := Lib.hid (BW.out.setCell (p := ⟨gz, 2, none⟩) (Nat.le_refl _) (.slice as3 n3 cs3))
 have hz3 : wa3.heap.size = (wa3.setCell ⟨gz, 2, none⟩ (.slice as3 n3 cs3)).heap.size := by simp
 replace hsz : gz + 1 ≤ (wa3.setCell ⟨gz, 2, none⟩ (.slice as3 n3 cs3)).heap.size := by rw [← hz3]; omega
 clear z0 z1 z2 z3 f2 hsa3;generalize wa3.setCell ⟨gz, 2, none⟩ (.slice as3 n3 cs3) = W3 at *;clear hz3;obtain ⟨iI4, hI4, hy4, hu4, hv4⟩ := info_parts infoT9;have z0 := kz.out.cell (i := 0) rfl;have z1 := kz.out.cell (i := 1) rfl;have z2 := kz.out.cell (i := 2) rfl;have z3 := kz.out.cell (i := 3) rfl;have m3 := (KM.out _ BW.out).cell (i := 3) rfl;have q1 : Hid (0 + n4 ≤ maxLen) := Lib.hid (by unfold maxLen; omega);have q2 : Hid ((0 + n4) * 72 ≤ 140737488355328) := Lib.hid (by omega);have HR := Lib.hid (MM.out _ BW.out).1.2.2.2
 go_wp2_with (at_builtin; refine wpList_append_catk rfl _ _ 24 rfl W3.heap.size 88 iI4 _ 9 72 Tryz.underlying24 hI4 hy4 hu4 hv4 rfl (by decide) (.slice none 0 0) 0 (fun _ _ => 0) rfl (World.ownsRow_nil _ _ _ _) pa4 n4 c4 FC rfl (HZ.out.2.2.2) HR.out q1.out q2.out (Nat.le_refl _) ?_)
 intro va4 wa4 own4 hba4
 have O4 := Lib.hid (ownR_mono (own_cat0 own4) hsz);replace O1 := Lib.hid (ownK_keep O1.out hba4);replace O2 := Lib.hid (ownK_keep O2.out hba4);replace O3 := Lib.hid (ownK_keep O3.out hba4);replace kz := Lib.hid (kz.out.keep hba4);replace BW := Lib.hid (BW.out.trans (hba4.mono (by omega)));have hsa4 := hba4.size;obtain ⟨as4, cs4, rfl, -, -, -, -⟩ := rowK_of_own O4.out;clear own4 hba4 q1 q2 HR z0 z1 z2 z3 m3;have z0 := kz.out.cell (i := 0) rfl;have z1 := kz.out.cell (i := 1) rfl;have z2 := kz.out.cell (i := 2) rfl;have z3 := kz.out.cell (i := 3) rfl;have f3 := kz.out.frozen 3
 go_upto_region 6 with fail
 replace O1 := Lib.hid (ownsRow_setCell_below O1.out (a := ⟨gz, 3, none⟩) (by show gz < _; omega) (.slice as4 n4 cs4));replace O2 := Lib.hid (ownsRow_setCell_below O2.out (a := ⟨gz, 3, none⟩) (by show gz < _; omega) (.slice as4 n4 cs4));replace O3 := Lib.hid (ownsRow_setCell_below O3.out (a := ⟨gz, 3, none⟩) (by show gz < _; omega) (.slice as4 n4 cs4));replace O4 := Lib.hid (ownsRow_setCell_below O4.out (a := ⟨gz, 3, none⟩) (by show gz < _; omega) (.slice as4 n4 cs4));replace kz : Hid (Lok (wa4.setCell ⟨gz, 3, none⟩ (.slice as4 n4 cs4)) gz 26 #[.slice as1 n1 cs1, .slice as2 n2 cs2, .slice as3 n3 cs3, .slice as4 n4 cs4]) := Lib.hid (kz.out.set (i := 3) (v := .slice as4 n4 cs4));replace BW := Lib.hid (BW.out.setCell (p := ⟨gz, 3, none⟩) (Nat.le_refl _) (.slice as4 n4 cs4))
 have hz4 : wa4.heap.size = (wa4.setCell ⟨gz, 3, none⟩ (.slice as4 n4 cs4)).heap.size := by simp
 replace hsz : gz + 1 ≤ (wa4.setCell ⟨gz, 3, none⟩ (.slice as4 n4 cs4)).heap.size := by rw [← hz4]; omega
 clear z0 z1 z2 z3 f3 hsa4;generalize wa4.setCell ⟨gz, 3, none⟩ (.slice as4 n4 cs4) = W4 at *;clear hz4;have z0 := kz.out.cell (i := 0) rfl;have z1 := kz.out.cell (i := 1) rfl;have z2 := kz.out.cell (i := 2) rfl;have z3 := kz.out.cell (i := 3) rfl;have kr := Lib.hid (KR.out _ BW.out);have r0 := kr.out.cell (i := 0) rfl;have f0 := kr.out.frozen 0;have r1 := kr.out.cell (i := 1) rfl;have f1 := kr.out.frozen 1;have r2 := kr.out.cell (i := 2) rfl;have f2 := kr.out.frozen 2;have r3 := kr.out.cell (i := 3) rfl;have f3 := kr.out.frozen 3;have K2 := Lib.hid ((((kr.out.set (i := 0) (v := .slice as1 n1 cs1)).set (i := 1) (v := .slice as2 n2 cs2)).set (i := 2) (v := .slice as3 n3 cs3)).set (i := 3) (v := .slice as4 n4 cs4));replace O1 := Lib.hid (ownR_mono (ownsRow_setCell_below (ownsRow_setCell_below (ownsRow_setCell_below (ownsRow_setCell_below O1.out (a := ⟨w.heap.size + 1, 0, none⟩) (by show w.heap.size + 1 < _; omega) (.slice as1 n1 cs1)) (a := ⟨w.heap.size + 1, 1, none⟩) (by show w.heap.size + 1 < _; omega) (.slice as2 n2 cs2)) (a := ⟨w.heap.size + 1, 2, none⟩) (by show w.heap.size + 1 < _; omega) (.slice as3 n3 cs3)) (a := ⟨w.heap.size + 1, 3, none⟩) (by show w.heap.size + 1 < _; omega) (.slice as4 n4 cs4)) (show w.heap.size ≤ gz + 1 by omega));replace O2 := Lib.hid (ownR_mono (ownsRow_setCell_below (ownsRow_setCell_below (ownsRow_setCell_below (ownsRow_setCell_below O2.out (a := ⟨w.heap.size + 1, 0, none⟩) (by show w.heap.size + 1 < _; omega) (.slice as1 n1 cs1)) (a := ⟨w.heap.size + 1, 1, none⟩) (by show w.heap.size + 1 < _; omega) (.slice as2 n2 cs2)) (a := ⟨w.heap.size + 1, 2, none⟩) (by show w.heap.size + 1 < _; omega) (.slice as3 n3 cs3)) (a := ⟨w.heap.size + 1, 3, none⟩) (by show w.heap.size + 1 < _; omega) (.slice as4 n4 cs4)) (show w.heap.size ≤ gz + 1 by omega));replace O3 := Lib.hid (ownR_mono (ownsRow_setCell_below (ownsRow_setCell_below (ownsRow_setCell_below (ownsRow_setCell_below O3.out (a := ⟨w.heap.size + 1, 0, none⟩) (by show w.heap.size + 1 < _; omega) (.slice as1 n1 cs1)) (a := ⟨w.heap.size + 1, 1, none⟩) (by show w.heap.size + 1 < _; omega) (.slice as2 n2 cs2)) (a := ⟨w.heap.size + 1, 2, none⟩) (by show w.heap.size + 1 < _; omega) (.slice as3 n3 cs3)) (a := ⟨w.heap.size + 1, 3, none⟩) (by show w.heap.size + 1 < _; omega) (.slice as4 n4 cs4)) (show w.heap.size ≤ gz + 1 by omega))
 replace O4 := Lib.hid (ownR_mono (ownsRow_setCell_below (ownsRow_setCell_below (ownsRow_setCell_below (ownsRow_setCell_below O4.out (a := ⟨w.heap.size + 1, 0, none⟩) (by show w.heap.size + 1 < _; omega) (.slice as1 n1 cs1)) (a := ⟨w.heap.size + 1, 1, none⟩) (by show w.heap.size + 1 < _; omega) (.slice as2 n2 cs2)) (a := ⟨w.heap.size + 1, 2, none⟩) (by show w.heap.size + 1 < _; omega) (.slice as3 n3 cs3)) (a := ⟨w.heap.size + 1, 3, none⟩) (by show w.heap.size + 1 < _; omega) (.slice as4 n4 cs4)) (show w.heap.size ≤ gz + 1 by omega));have HX := Lib.hid (((((HBW.out _ BW.out).setCell (p := ⟨w.heap.size + 1, 0, none⟩) (by show w.heap.size ≤ w.heap.size + 1; omega) (.slice as1 n1 cs1)).setCell (p := ⟨w.heap.size + 1, 1, none⟩) (by show w.heap.size ≤ w.heap.size + 1; omega) (.slice as2 n2 cs2)).setCell (p := ⟨w.heap.size + 1, 2, none⟩) (by show w.heap.size ≤ w.heap.size + 1; omega) (.slice as3 n3 cs3)).setCell (p := ⟨w.heap.size + 1, 3, none⟩) (by show w.heap.size ≤ w.heap.size + 1; omega) (.slice as4 n4 cs4));have y0 := K2.out.cell (i := 0) rfl;have y1 := K2.out.cell (i := 1) rfl;have y2 := K2.out.cell (i := 2) rfl;have y3 := K2.out.cell (i := 3) rfl;clear KM KR MM HBW BW kz kr K2
 go_wp2_with fail
 exact bodyPost_ret (v := .agg #[.slice as1 n1 cs1, .slice as2 n2 cs2, .slice as3 n3 cs3, .slice as4 n4 cs4]) (by simp [results, Tryz.results5, go_sem, y0, y1, y2, y3]) rfl ⟨⟨_, _, _, _, rfl, O1.out, O2.out, O3.out, O4.out⟩, HX.out⟩
end Go.Proofs.YtcnbbanpnoigdaaGreat
