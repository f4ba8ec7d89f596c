/-
  Texts in one: ChQ, ChN, MtE, MtF, MtG, MtH, ChT, ChS, ChCU.
-/
import Derived.Test.YtcnbbanpnoigdaaHg
import Derived.Test.YtcnbbanpnoigdaaHh
import Derived.Test.YtcnbbanpnoigdaaHf
import Derived.Test.YtcnbbanpnoigdaaHi
import Derived.Test.YtcnbbanpnoigdaaHd
import Derived.BigQuiet
import Derived.Test.YtcnbbanpnoigdaaChCR
/-
  The reference limewashref08: Own of a mesh. (gen/ChQ.py)
-/
namespace Go.Proofs.Ytcnbbanpnoigdaa
open Go.RowKit

theorem own_cat0 {w : World} {base n k : Nat} {e : TypeId} {v : Value} {F G : Nat → Nat → Int} (h : w.ownsRow base e k v n (valsK n k (catK 0 G F))) : w.ownsRow base e k v n (valsK n k F) := by
  rwa [valsK_congr (G := F) (fun i hi j _ => by rw [catK_hi _ _ _ (Nat.zero_le _), Nat.sub_zero])] at h
theorem infoV3 : (Try.prog.info? 68).map (fun i => (i.zero, i.size, i.bytes)) = some (some (.agg #[.int .i64 0, .int .i64 0, .int .i64 0]), 3, 24) := by kernel_rfl
theorem infoV2 : (Try.prog.info? 40).map (fun i => (i.zero, i.size, i.bytes)) = some (some (.agg #[.int .i64 0, .int .i64 0]), 2, 16) := by kernel_rfl
theorem infoT9 : (Try.prog.info? 51).map (fun i => (i.zero, i.size, i.bytes)) = some (some (.agg #[.int .i64 0, .int .i64 0, .int .i64 0, .int .i64 0, .int .i64 0, .int .i64 0, .int .i64 0, .int .i64 0, .int .i64 0]), 9, 72) := by kernel_rfl
/-- A mesh of the call's own: its four rows. -/
def OwM (W : World) (B : Nat) (v1 v2 v3 v4 : Value) (n1 n2 n3 n4 : Nat) (FV FT FN FC : Nat → Nat → Int) : Prop := W.ownsRow B 68 3 v1 n1 (valsK n1 3 FV) ∧ W.ownsRow B 40 2 v2 n2 (valsK n2 2 FT) ∧ W.ownsRow B 68 3 v3 n3 (valsK n3 3 FN) ∧ W.ownsRow B 51 9 v4 n4 (valsK n4 9 FC)
set_option maxRecDepth 100000 in
set_option maxHeartbeats 16000000 in
theorem rown08_any (pa1 pa2 pa3 pa4 : Option Addr) (n1 n2 n3 n4 c1 c2 c3 c4 : Nat) (FV FT FN FC : Nat → Nat → Int) (w : World) (hm : MsW w pa1 pa2 pa3 pa4 n1 n2 n3 n4 FV FT FN FC) (hz : (pa1 = none → n1 = 0 ∧ c1 = 0) ∧ (pa2 = none → n2 = 0 ∧ c2 = 0) ∧ (pa3 = none → n3 = 0 ∧ c3 = 0) ∧ (pa4 = none → n4 = 0 ∧ c4 = 0)) (hs : n1 ≤ 60 ∧ n2 ≤ 60 ∧ n3 ≤ 60 ∧ n4 ≤ 60) :
    Calls Try.prog 17 #[.agg #[.slice pa1 n1 c1, .slice pa2 n2 c2, .slice pa3 n3 c3, .slice pa4 n4 c4]] w fun e w' => (∃ v1 v2 v3 v4, e = .returned (.agg #[v1, v2, v3, v4]) ∧ OwM w' w.heap.size v1 v2 v3 v4 n1 n2 n3 n4 FV FT FN FC) ∧ Below w.heap.size w w' := by
  have HB := Lib.hid (Below.refl w.heap.size w)
  have M := Lib.hid hm
  have HZ := Lib.hid hz
  obtain ⟨s1, s2, s3, s4⟩ := hs
  clear hm hz
  go_enter Try.func17, Try.ntmps17
  go_upto_region 1 with fail
  have hbm := below_new1 w (.cells #[.slice pa1 n1 c1, .slice pa2 n2 c2, .slice pa3 n3 c3, .slice pa4 n4 c4] 26)
  have zm : (w.alloc (.cells #[.slice pa1 n1 c1, .slice pa2 n2 c2, .slice pa3 n3 c3, .slice pa4 n4 c4] 26)).heap.size = w.heap.size + 1 := by simp
  have HB := Lib.hid hbm
  have km := Lib.hid (Lok.new w 26 #[.slice pa1 n1 c1, .slice pa2 n2 c2, .slice pa3 n3 c3, .slice pa4 n4 c4])
  clear hbm
  generalize w.alloc (.cells #[.slice pa1 n1 c1, .slice pa2 n2 c2, .slice pa3 n3 c3, .slice pa4 n4 c4] 26) = Vm at *
  have hbr := below_new1 Vm (.cells #[.slice none 0 0, .slice none 0 0, .slice none 0 0, .slice none 0 0] 26)
  replace km := Lib.hid (km.out.keep hbr)
  have zr : (Vm.alloc (.cells #[.slice none 0 0, .slice none 0 0, .slice none 0 0, .slice none 0 0] 26)).heap.size = Vm.heap.size + 1 := by simp
  replace HB := Lib.hid (HB.out.trans (hbr.mono HB.out.size))
  have kr := Lib.hid (Lok.new Vm 26 #[.slice none 0 0, .slice none 0 0, .slice none 0 0, .slice none 0 0])
  clear hbr
  generalize Vm.alloc (.cells #[.slice none 0 0, .slice none 0 0, .slice none 0 0, .slice none 0 0] 26) = Vr at *
  rw [zm] at kr zr
  have hgr : w.heap.size + 1 + 1 ≤ Vr.heap.size := by rw [zr]; exact Nat.le_refl _
  clear zm zr
  go_upto_region 2 with fail
  have BW := Lib.hid ((Below.refl Vr.heap.size Vr).alloc (Nat.le_refl _) (.cells #[.slice none 0 0, .slice none 0 0, .slice none 0 0, .slice none 0 0] 26))
  have KM := Lib.hid (fun W (h : Below Vr.heap.size Vr W) => km.out.keep h)
  have KR := Lib.hid (fun W (h : Below Vr.heap.size Vr W) => kr.out.keep h)
  have MM := Lib.hid (fun W (h : Below Vr.heap.size Vr W) => M.out.keep (HB.out.trans (h.mono HB.out.size)))
  have HBW := Lib.hid (fun W (h : Below Vr.heap.size Vr W) => HB.out.trans (h.mono HB.out.size))
  have hbz := below_new1 Vr (.cells #[.slice none 0 0, .slice none 0 0, .slice none 0 0, .slice none 0 0] 26)
  have zz : (Vr.alloc (.cells #[.slice none 0 0, .slice none 0 0, .slice none 0 0, .slice none 0 0] 26)).heap.size = Vr.heap.size + 1 := by simp
  replace HB := Lib.hid (HB.out.trans (hbz.mono HB.out.size))
  have kz := Lib.hid (Lok.new Vr 26 #[.slice none 0 0, .slice none 0 0, .slice none 0 0, .slice none 0 0])
  clear hbz
  generalize Vr.alloc (.cells #[.slice none 0 0, .slice none 0 0, .slice none 0 0, .slice none 0 0] 26) = Vz at *
  have hsz : Vr.heap.size + 1 ≤ Vz.heap.size := by rw [zz]; exact Nat.le_refl _
  clear zz km kr M HB
  generalize Vr.heap.size = gz at *
  obtain ⟨iI1, hI1, hy1, hu1, hv1⟩ := info_parts infoV3
  have z0 := kz.out.cell (i := 0) rfl
  have z1 := kz.out.cell (i := 1) rfl
  have z2 := kz.out.cell (i := 2) rfl
  have z3 := kz.out.cell (i := 3) rfl
  have m0 := (KM.out _ BW.out).cell (i := 0) rfl
  have q1 : Hid (0 + n1 ≤ maxLen) := Lib.hid (by unfold maxLen; omega)
  have q2 : Hid ((0 + n1) * 24 ≤ 140737488355328) := Lib.hid (by omega)
  have HR := Lib.hid (MM.out _ BW.out).1.1
  go_wp2_with (at_builtin; refine wpList_append_catk rfl _ _ 22 rfl Vz.heap.size 68 iI1 _ 3 24 Try.underlying22 hI1 hy1 hu1 hv1 rfl (by decide) (.slice none 0 0) 0 (fun _ _ => 0) rfl (World.ownsRow_nil _ _ _ _) pa1 n1 c1 FV rfl (HZ.out.1) HR.out q1.out q2.out (Nat.le_refl _) ?_)
  intro va1 wa1 own1 hba1
  have O1 := Lib.hid (ownR_mono (own_cat0 own1) hsz)
  replace kz := Lib.hid (kz.out.keep hba1)
  replace BW := Lib.hid (BW.out.trans (hba1.mono (by omega)))
  have hsa1 := hba1.size
  obtain ⟨as1, cs1, rfl, -, -, -, -⟩ := rowK_of_own O1.out
  clear own1 hba1 q1 q2 HR z0 z1 z2 z3 m0
  have z0 := kz.out.cell (i := 0) rfl
  have z1 := kz.out.cell (i := 1) rfl
  have z2 := kz.out.cell (i := 2) rfl
  have z3 := kz.out.cell (i := 3) rfl
  have f0 := kz.out.frozen 0
  go_upto_region 3 with fail
  replace O1 := Lib.hid (ownsRow_setCell_below O1.out (a := ⟨gz, 0, none⟩) (by show gz < _; omega) (.slice as1 n1 cs1))
  replace kz : Hid (Lok (wa1.setCell ⟨gz, 0, none⟩ (.slice as1 n1 cs1)) gz 26 #[.slice as1 n1 cs1, .slice none 0 0, .slice none 0 0, .slice none 0 0]) := Lib.hid (kz.out.set (i := 0) (v := .slice as1 n1 cs1))
  replace BW := Lib.hid (BW.out.setCell (p := ⟨gz, 0, none⟩) (Nat.le_refl _) (.slice as1 n1 cs1))
  have hz1 : wa1.heap.size = (wa1.setCell ⟨gz, 0, none⟩ (.slice as1 n1 cs1)).heap.size := by simp
  replace hsz : gz + 1 ≤ (wa1.setCell ⟨gz, 0, none⟩ (.slice as1 n1 cs1)).heap.size := by rw [← hz1]; omega
  clear z0 z1 z2 z3 f0 hsa1
  generalize wa1.setCell ⟨gz, 0, none⟩ (.slice as1 n1 cs1) = W1 at *
  clear hz1
  obtain ⟨iI2, hI2, hy2, hu2, hv2⟩ := info_parts infoV2
  have z0 := kz.out.cell (i := 0) rfl
  have z1 := kz.out.cell (i := 1) rfl
  have z2 := kz.out.cell (i := 2) rfl
  have z3 := kz.out.cell (i := 3) rfl
  have m1 := (KM.out _ BW.out).cell (i := 1) rfl
  have q1 : Hid (0 + n2 ≤ maxLen) := Lib.hid (by unfold maxLen; omega)
  have q2 : Hid ((0 + n2) * 16 ≤ 140737488355328) := Lib.hid (by omega)
  have HR := Lib.hid (MM.out _ BW.out).1.2.1
  go_wp2_with (at_builtin; refine wpList_append_catk rfl _ _ 23 rfl W1.heap.size 40 iI2 _ 2 16 Try.underlying23 hI2 hy2 hu2 hv2 rfl (by decide) (.slice none 0 0) 0 (fun _ _ => 0) rfl (World.ownsRow_nil _ _ _ _) pa2 n2 c2 FT rfl (HZ.out.2.1) HR.out q1.out q2.out (Nat.le_refl _) ?_)
  intro va2 wa2 own2 hba2
  have O2 := Lib.hid (ownR_mono (own_cat0 own2) hsz)
  replace O1 := Lib.hid (ownK_keep O1.out hba2)
  replace kz := Lib.hid (kz.out.keep hba2)
  replace BW := Lib.hid (BW.out.trans (hba2.mono (by omega)))
  have hsa2 := hba2.size
  obtain ⟨as2, cs2, rfl, -, -, -, -⟩ := rowK_of_own O2.out
  clear own2 hba2 q1 q2 HR z0 z1 z2 z3 m1
  have z0 := kz.out.cell (i := 0) rfl
  have z1 := kz.out.cell (i := 1) rfl
  have z2 := kz.out.cell (i := 2) rfl
  have z3 := kz.out.cell (i := 3) rfl
  have f1 := kz.out.frozen 1
  go_upto_region 4 with fail
  replace O1 := Lib.hid (ownsRow_setCell_below O1.out (a := ⟨gz, 1, none⟩) (by show gz < _; omega) (.slice as2 n2 cs2))
  replace O2 := Lib.hid (ownsRow_setCell_below O2.out (a := ⟨gz, 1, none⟩) (by show gz < _; omega) (.slice as2 n2 cs2))
  replace kz : Hid (Lok (wa2.setCell ⟨gz, 1, none⟩ (.slice as2 n2 cs2)) gz 26 #[.slice as1 n1 cs1, .slice as2 n2 cs2, .slice none 0 0, .slice none 0 0]) := Lib.hid (kz.out.set (i := 1) (v := .slice as2 n2 cs2))
  replace BW := Lib.hid (BW.out.setCell (p := ⟨gz, 1, none⟩) (Nat.le_refl _) (.slice as2 n2 cs2))
  have hz2 : wa2.heap.size = (wa2.setCell ⟨gz, 1, none⟩ (.slice as2 n2 cs2)).heap.size := by simp
  replace hsz : gz + 1 ≤ (wa2.setCell ⟨gz, 1, none⟩ (.slice as2 n2 cs2)).heap.size := by rw [← hz2]; omega
  clear z0 z1 z2 z3 f1 hsa2
  generalize wa2.setCell ⟨gz, 1, none⟩ (.slice as2 n2 cs2) = W2 at *
  clear hz2
  obtain ⟨iI3, hI3, hy3, hu3, hv3⟩ := info_parts infoV3
  have z0 := kz.out.cell (i := 0) rfl
  have z1 := kz.out.cell (i := 1) rfl
  have z2 := kz.out.cell (i := 2) rfl
  have z3 := kz.out.cell (i := 3) rfl
  have m2 := (KM.out _ BW.out).cell (i := 2) rfl
  have q1 : Hid (0 + n3 ≤ maxLen) := Lib.hid (by unfold maxLen; omega)
  have q2 : Hid ((0 + n3) * 24 ≤ 140737488355328) := Lib.hid (by omega)
  have HR := Lib.hid (MM.out _ BW.out).1.2.2.1
  go_wp2_with (at_builtin; refine wpList_append_catk rfl _ _ 22 rfl W2.heap.size 68 iI3 _ 3 24 Try.underlying22 hI3 hy3 hu3 hv3 rfl (by decide) (.slice none 0 0) 0 (fun _ _ => 0) rfl (World.ownsRow_nil _ _ _ _) pa3 n3 c3 FN rfl (HZ.out.2.2.1) HR.out q1.out q2.out (Nat.le_refl _) ?_)
  intro va3 wa3 own3 hba3
  have O3 := Lib.hid (ownR_mono (own_cat0 own3) hsz)
  replace O1 := Lib.hid (ownK_keep O1.out hba3)
  replace O2 := Lib.hid (ownK_keep O2.out hba3)
  replace kz := Lib.hid (kz.out.keep hba3)
  replace BW := Lib.hid (BW.out.trans (hba3.mono (by omega)))
  have hsa3 := hba3.size
  obtain ⟨as3, cs3, rfl, -, -, -, -⟩ := rowK_of_own O3.out
  clear own3 hba3 q1 q2 HR z0 z1 z2 z3 m2
  have z0 := kz.out.cell (i := 0) rfl
  have z1 := kz.out.cell (i := 1) rfl
  have z2 := kz.out.cell (i := 2) rfl
  have z3 := kz.out.cell (i := 3) rfl
  have f2 := kz.out.frozen 2
  go_upto_region 5 with fail
  replace O1 := Lib.hid (ownsRow_setCell_below O1.out (a := ⟨gz, 2, none⟩) (by show gz < _; omega) (.slice as3 n3 cs3))
  replace O2 := Lib.hid (ownsRow_setCell_below O2.out (a := ⟨gz, 2, none⟩) (by show gz < _; omega) (.slice as3 n3 cs3))
  replace O3 := Lib.hid (ownsRow_setCell_below O3.out (a := ⟨gz, 2, none⟩) (by show gz < _; omega) (.slice as3 n3 cs3))
  replace kz : Hid (Lok (wa3.setCell ⟨gz, 2, none⟩ (.slice as3 n3 cs3)) gz 26 #[.slice as1 n1 cs1, .slice as2 n2 cs2, .slice as3 n3 cs3, .slice none 0 0]) := Lib.hid (kz.out.set (i := 2) (v := .slice as3 n3 cs3))
  replace BW := Lib.hid (BW.out.setCell (p := ⟨gz, 2, none⟩) (Nat.le_refl _) (.slice as3 n3 cs3))
  have hz3 : wa3.heap.size = (wa3.setCell ⟨gz, 2, none⟩ (.slice as3 n3 cs3)).heap.size := by simp
  replace hsz : gz + 1 ≤ (wa3.setCell ⟨gz, 2, none⟩ (.slice as3 n3 cs3)).heap.size := by rw [← hz3]; omega
  clear z0 z1 z2 z3 f2 hsa3
  generalize wa3.setCell ⟨gz, 2, none⟩ (.slice as3 n3 cs3) = W3 at *
  clear hz3
  obtain ⟨iI4, hI4, hy4, hu4, hv4⟩ := info_parts infoT9
  have z0 := kz.out.cell (i := 0) rfl
  have z1 := kz.out.cell (i := 1) rfl
  have z2 := kz.out.cell (i := 2) rfl
  have z3 := kz.out.cell (i := 3) rfl
  have m3 := (KM.out _ BW.out).cell (i := 3) rfl
  have q1 : Hid (0 + n4 ≤ maxLen) := Lib.hid (by unfold maxLen; omega)
  have q2 : Hid ((0 + n4) * 72 ≤ 140737488355328) := Lib.hid (by omega)
  have HR := Lib.hid (MM.out _ BW.out).1.2.2.2
  go_wp2_with (at_builtin; refine wpList_append_catk rfl _ _ 24 rfl W3.heap.size 51 iI4 _ 9 72 Try.underlying24 hI4 hy4 hu4 hv4 rfl (by decide) (.slice none 0 0) 0 (fun _ _ => 0) rfl (World.ownsRow_nil _ _ _ _) pa4 n4 c4 FC rfl (HZ.out.2.2.2) HR.out q1.out q2.out (Nat.le_refl _) ?_)
  intro va4 wa4 own4 hba4
  have O4 := Lib.hid (ownR_mono (own_cat0 own4) hsz)
  replace O1 := Lib.hid (ownK_keep O1.out hba4)
  replace O2 := Lib.hid (ownK_keep O2.out hba4)
  replace O3 := Lib.hid (ownK_keep O3.out hba4)
  replace kz := Lib.hid (kz.out.keep hba4)
  replace BW := Lib.hid (BW.out.trans (hba4.mono (by omega)))
  have hsa4 := hba4.size
  obtain ⟨as4, cs4, rfl, -, -, -, -⟩ := rowK_of_own O4.out
  clear own4 hba4 q1 q2 HR z0 z1 z2 z3 m3
  have z0 := kz.out.cell (i := 0) rfl
  have z1 := kz.out.cell (i := 1) rfl
  have z2 := kz.out.cell (i := 2) rfl
  have z3 := kz.out.cell (i := 3) rfl
  have f3 := kz.out.frozen 3
  go_upto_region 6 with fail
  replace O1 := Lib.hid (ownsRow_setCell_below O1.out (a := ⟨gz, 3, none⟩) (by show gz < _; omega) (.slice as4 n4 cs4))
  replace O2 := Lib.hid (ownsRow_setCell_below O2.out (a := ⟨gz, 3, none⟩) (by show gz < _; omega) (.slice as4 n4 cs4))
  replace O3 := Lib.hid (ownsRow_setCell_below O3.out (a := ⟨gz, 3, none⟩) (by show gz < _; omega) (.slice as4 n4 cs4))
  replace O4 := Lib.hid (ownsRow_setCell_below O4.out (a := ⟨gz, 3, none⟩) (by show gz < _; omega) (.slice as4 n4 cs4))
  replace kz : Hid (Lok (wa4.setCell ⟨gz, 3, none⟩ (.slice as4 n4 cs4)) gz 26 #[.slice as1 n1 cs1, .slice as2 n2 cs2, .slice as3 n3 cs3, .slice as4 n4 cs4]) := Lib.hid (kz.out.set (i := 3) (v := .slice as4 n4 cs4))
  replace BW := Lib.hid (BW.out.setCell (p := ⟨gz, 3, none⟩) (Nat.le_refl _) (.slice as4 n4 cs4))
  have hz4 : wa4.heap.size = (wa4.setCell ⟨gz, 3, none⟩ (.slice as4 n4 cs4)).heap.size := by simp
  replace hsz : gz + 1 ≤ (wa4.setCell ⟨gz, 3, none⟩ (.slice as4 n4 cs4)).heap.size := by rw [← hz4]; omega
  clear z0 z1 z2 z3 f3 hsa4
  generalize wa4.setCell ⟨gz, 3, none⟩ (.slice as4 n4 cs4) = W4 at *
  clear hz4
  have z0 := kz.out.cell (i := 0) rfl
  have z1 := kz.out.cell (i := 1) rfl
  have z2 := kz.out.cell (i := 2) rfl
  have z3 := kz.out.cell (i := 3) rfl
  have kr := Lib.hid (KR.out _ BW.out)
  have r0 := kr.out.cell (i := 0) rfl
  have f0 := kr.out.frozen 0
  have r1 := kr.out.cell (i := 1) rfl
  have f1 := kr.out.frozen 1
  have r2 := kr.out.cell (i := 2) rfl
  have f2 := kr.out.frozen 2
  have r3 := kr.out.cell (i := 3) rfl
  have f3 := kr.out.frozen 3
  have K2 := Lib.hid ((((kr.out.set (i := 0) (v := .slice as1 n1 cs1)).set (i := 1) (v := .slice as2 n2 cs2)).set (i := 2) (v := .slice as3 n3 cs3)).set (i := 3) (v := .slice as4 n4 cs4))
  replace O1 := Lib.hid (ownR_mono (ownsRow_setCell_below (ownsRow_setCell_below (ownsRow_setCell_below (ownsRow_setCell_below O1.out (a := ⟨w.heap.size + 1, 0, none⟩) (by show w.heap.size + 1 < _; omega) (.slice as1 n1 cs1)) (a := ⟨w.heap.size + 1, 1, none⟩) (by show w.heap.size + 1 < _; omega) (.slice as2 n2 cs2)) (a := ⟨w.heap.size + 1, 2, none⟩) (by show w.heap.size + 1 < _; omega) (.slice as3 n3 cs3)) (a := ⟨w.heap.size + 1, 3, none⟩) (by show w.heap.size + 1 < _; omega) (.slice as4 n4 cs4)) (show w.heap.size ≤ gz + 1 by omega))
  replace O2 := Lib.hid (ownR_mono (ownsRow_setCell_below (ownsRow_setCell_below (ownsRow_setCell_below (ownsRow_setCell_below O2.out (a := ⟨w.heap.size + 1, 0, none⟩) (by show w.heap.size + 1 < _; omega) (.slice as1 n1 cs1)) (a := ⟨w.heap.size + 1, 1, none⟩) (by show w.heap.size + 1 < _; omega) (.slice as2 n2 cs2)) (a := ⟨w.heap.size + 1, 2, none⟩) (by show w.heap.size + 1 < _; omega) (.slice as3 n3 cs3)) (a := ⟨w.heap.size + 1, 3, none⟩) (by show w.heap.size + 1 < _; omega) (.slice as4 n4 cs4)) (show w.heap.size ≤ gz + 1 by omega))
  replace O3 := Lib.hid (ownR_mono (ownsRow_setCell_below (ownsRow_setCell_below (ownsRow_setCell_below (ownsRow_setCell_below O3.out (a := ⟨w.heap.size + 1, 0, none⟩) (by show w.heap.size + 1 < _; omega) (.slice as1 n1 cs1)) (a := ⟨w.heap.size + 1, 1, none⟩) (by show w.heap.size + 1 < _; omega) (.slice as2 n2 cs2)) (a := ⟨w.heap.size + 1, 2, none⟩) (by show w.heap.size + 1 < _; omega) (.slice as3 n3 cs3)) (a := ⟨w.heap.size + 1, 3, none⟩) (by show w.heap.size + 1 < _; omega) (.slice as4 n4 cs4)) (show w.heap.size ≤ gz + 1 by omega))
  replace O4 := Lib.hid (ownR_mono (ownsRow_setCell_below (ownsRow_setCell_below (ownsRow_setCell_below (ownsRow_setCell_below O4.out (a := ⟨w.heap.size + 1, 0, none⟩) (by show w.heap.size + 1 < _; omega) (.slice as1 n1 cs1)) (a := ⟨w.heap.size + 1, 1, none⟩) (by show w.heap.size + 1 < _; omega) (.slice as2 n2 cs2)) (a := ⟨w.heap.size + 1, 2, none⟩) (by show w.heap.size + 1 < _; omega) (.slice as3 n3 cs3)) (a := ⟨w.heap.size + 1, 3, none⟩) (by show w.heap.size + 1 < _; omega) (.slice as4 n4 cs4)) (show w.heap.size ≤ gz + 1 by omega))
  have HX := Lib.hid (((((HBW.out _ BW.out).setCell (p := ⟨w.heap.size + 1, 0, none⟩) (by show w.heap.size ≤ w.heap.size + 1; omega) (.slice as1 n1 cs1)).setCell (p := ⟨w.heap.size + 1, 1, none⟩) (by show w.heap.size ≤ w.heap.size + 1; omega) (.slice as2 n2 cs2)).setCell (p := ⟨w.heap.size + 1, 2, none⟩) (by show w.heap.size ≤ w.heap.size + 1; omega) (.slice as3 n3 cs3)).setCell (p := ⟨w.heap.size + 1, 3, none⟩) (by show w.heap.size ≤ w.heap.size + 1; omega) (.slice as4 n4 cs4))
  have y0 := K2.out.cell (i := 0) rfl
  have y1 := K2.out.cell (i := 1) rfl
  have y2 := K2.out.cell (i := 2) rfl
  have y3 := K2.out.cell (i := 3) rfl
  clear KM KR MM HBW BW kz kr K2
  go_wp2_with fail
  exact bodyPost_ret (v := .agg #[.slice as1 n1 cs1, .slice as2 n2 cs2, .slice as3 n3 cs3, .slice as4 n4 cs4]) (by simp [results, Try.results17, go_sem, y0, y1, y2, y3]) rfl ⟨⟨_, _, _, _, rfl, O1.out, O2.out, O3.out, O4.out⟩, HX.out⟩
end Go.Proofs.Ytcnbbanpnoigdaa
/-
  Triangles turned over (two corners changed) are next to the same ones: pure.
-/
namespace Go.Proofs.Ytcnbbanpnoigdaa

theorem ed3_turn (x y a b : Int) : ed3 y x a b = ed3 x y a b := by
  rw [Bool.eq_iff_iff, ed3_iff, ed3_iff]
  constructor <;> rintro ⟨h, k⟩ <;> exact ⟨fun e => h e.symm, by omega⟩
theorem ed3_back (x y a b : Int) : ed3 x y b a = ed3 x y a b := by
  rw [Bool.eq_iff_iff, ed3_iff, ed3_iff]
  constructor <;> rintro ⟨h, k⟩ <;> exact ⟨h, by omega⟩
theorem hasB_turn (x y z a b : Int) : hasB y x z a b = hasB x y z a b := by
  unfold hasB
  rw [ed3_turn x y, ed3_turn z x, ed3_turn y z]
  cases ed3 x y a b <;> cases ed3 z x a b <;> cases ed3 y z a b <;> rfl
theorem hasB_back (x y z a b : Int) : hasB x y z b a = hasB x y z a b := by
  unfold hasB
  rw [ed3_back x y, ed3_back y z, ed3_back z x]
theorem bne_turn (x y : Int) : (y != x) = (x != y) := by
  rw [Bool.eq_iff_iff, bne_iff_ne, bne_iff_ne]
  exact ⟨fun h e => h e.symm, fun h e => h e.symm⟩
theorem nxE_turn (x y z u v w : Int) : nxE y x z v u w = nxE x y z u v w := by
  unfold nxE
  rw [bne_turn x y, bne_turn z x, bne_turn y z, hasB_turn u v w, hasB_turn u v w, hasB_turn u v w, hasB_back u v w x y, hasB_back u v w z x, hasB_back u v w y z]
  generalize (x != y && hasB u v w x y) = p
  generalize (y != z && hasB u v w y z) = q
  generalize (z != x && hasB u v w z x) = r
  cases p <;> cases q <;> cases r <;> rfl
theorem nxB_turn {F G : Nat → Nat → Int} {n : Nat} (h : ∀ i, i < n → G i 0 = F i 3 ∧ G i 3 = F i 0 ∧ G i 6 = F i 6) {i k : Nat} (hi : i < n) (hk : k < n) : nxB G i k = nxB F i k := by
  unfold nxB
  rw [(h i hi).1, (h i hi).2.1, (h i hi).2.2, (h k hk).1, (h k hk).2.1, (h k hk).2.2, nxE_turn]
end Go.Proofs.Ytcnbbanpnoigdaa
/-
  Contracts of package meet: crosses, Square. (gen/MtE.py)
-/
namespace Go.Proofs.Ytcnbbanpnoigdaa
open Go.RowKit

/-- The rectangle round a triangle meets the one from x y to fx fy. -/
def cB (x y fx fy a1 a2 b1 b2 c1 c2 : Int) : Bool := decide (min (min a1 b1) c1 ≤ fx) && decide (min (min a2 b2) c2 ≤ fy) && decide (x ≤ max (max a1 b1) c1) && decide (y ≤ max (max a2 b2) c2)
end Go.Proofs.Ytcnbbanpnoigdaa
/-
  Contract of package meet: Square. (gen/MtF.py)
-/
namespace Go.Proofs.Ytcnbbanpnoigdaa
open Go.RowKit

/-- The square from x y, s long, is one of small points. -/
def sqS (x y s : Int) : Bool := decide (1 ≤ s) && decide (s ≤ 4096) && s2 x y && s2 (x + s) (y + s)
def sqE (u t : Bool) : Int := if u = true then (if t = true then 0 else 1) else 5
def sqV (x y s a1 a2 b1 b2 c1 c2 : Int) : Bool := sqS x y s && rT a1 a2 b1 b2 c1 c2 && cB x y (x + s) (y + s) a1 a2 b1 b2 c1 c2 && (r4 a1 a2 b1 b2 c1 c2 x y (x + s) y (x + s) (y + s) x (y + s) != -1)
theorem sqS_iff {x y s : Int} : sqS x y s = true ↔ 1 ≤ s ∧ s ≤ 4096 ∧ s2 x y = true ∧ s2 (x + s) (y + s) = true := by
  unfold sqS; simp [Bool.and_eq_true, and_assoc]
theorem s2_corner {x y fx fy : Int} (h : s2 x y = true) (k : s2 fx fy = true) : s2 fx y = true ∧ s2 x fy = true := by
  obtain ⟨a, b⟩ := s2_iff.1 h
  obtain ⟨c, d⟩ := s2_iff.1 k
  exact ⟨s2_iff.2 ⟨c, b⟩, s2_iff.2 ⟨a, d⟩⟩
theorem sq_off {x y s : Int} (t : Bool) (h : sqS x y s = false) (a1 a2 b1 b2 c1 c2 : Int) : sqV x y s a1 a2 b1 b2 c1 c2 = false ∧ sqE (sqS x y s) t = 5 := by
  unfold sqV sqE; rw [h]; exact ⟨rfl, rfl⟩
end Go.Proofs.Ytcnbbanpnoigdaa
/-
  Plain geometry of triangles in a plane: points within, turns, squares. No program in sight.
-/
namespace Go.Proofs.Ytcnbbanpnoigdaa

theorem sg_mul (x y : Int) : ordI x 0 * ordI y 0 = ordI (x * y) 0 := by
  rcases Int.lt_trichotomy x 0 with h | h | h <;> rcases Int.lt_trichotomy y 0 with k | k | k
  · rw [ordI_lt h, ordI_lt k, ordI_gt (Int.mul_pos_of_neg_of_neg h k)]; rfl
  · subst k; rw [Int.mul_zero, ordI_eq rfl]; simp
  · rw [ordI_lt h, ordI_gt k, ordI_lt (Int.mul_neg_of_neg_of_pos h k)]; rfl
  · subst h; rw [Int.zero_mul, ordI_eq rfl]; simp
  · subst h; rw [Int.zero_mul, ordI_eq rfl]; simp
  · subst h; rw [Int.zero_mul, ordI_eq rfl]; simp
  · rw [ordI_gt h, ordI_lt k, ordI_lt (Int.mul_neg_of_pos_of_neg h k)]; rfl
  · subst k; rw [Int.mul_zero, ordI_eq rfl]; simp
  · rw [ordI_gt h, ordI_gt k, ordI_gt (Int.mul_pos h k)]; rfl
theorem sg_neg (x : Int) : ordI (-x) 0 = -ordI x 0 := by
  rcases Int.lt_trichotomy x 0 with h | h | h
  · rw [ordI_lt h, ordI_gt (by omega)]; rfl
  · subst h; rfl
  · rw [ordI_gt h, ordI_lt (by omega)]
theorem sg_pos {x : Int} : ordI x 0 = 1 ↔ 0 < x := by
  rcases ordI_ways x 0 with ⟨h, e⟩ | ⟨h, e⟩ | ⟨h, e⟩ <;> rw [e] <;> omega
theorem sg_nn {x : Int} : 0 ≤ ordI x 0 ↔ 0 ≤ x := by
  rcases ordI_ways x 0 with ⟨h, e⟩ | ⟨h, e⟩ | ⟨h, e⟩ <;> rw [e] <;> omega
theorem sg_low {x : Int} : ordI x 0 = -1 ↔ x < 0 := by
  rcases ordI_ways x 0 with ⟨h, e⟩ | ⟨h, e⟩ | ⟨h, e⟩ <;> rw [e] <;> omega

/-- An edge's side of a point, as a number: above 0 on the inner side. -/
def el (f1 f2 t1 t2 h1 h2 p1 p2 : Int) : Int := ar f1 f2 t1 t2 p1 p2 * ar f1 f2 t1 t2 h1 h2
theorem eS_el (f1 f2 t1 t2 h1 h2 p1 p2 : Int) : eS f1 f2 t1 t2 h1 h2 p1 p2 = ordI (el f1 f2 t1 t2 h1 h2 p1 p2) 0 := sg_mul _ _
theorem ar_turn (a b c d e f : Int) : ar c d e f a b = ar a b c d e f := by unfold ar; grind
theorem ar_swap (a b c d e f : Int) : ar c d a b e f = -ar a b c d e f := by unfold ar; grind
theorem ar_flip (a b c d e f : Int) : ar b a d c f e = -ar a b c d e f := by unfold ar; grind
theorem ar_self (a b c d : Int) : ar a b c d a b = 0 := by unfold ar; grind
theorem ar_self2 (a b c d : Int) : ar a b c d c d = 0 := by unfold ar; grind
theorem eS_swap (f1 f2 t1 t2 h1 h2 p1 p2 : Int) : eS t1 t2 f1 f2 h1 h2 p1 p2 = eS f1 f2 t1 t2 h1 h2 p1 p2 := by
  unfold eS; rw [ar_swap f1 f2 t1 t2 p1 p2, ar_swap f1 f2 t1 t2 h1 h2, sg_neg, sg_neg, Int.neg_mul_neg]
theorem eS_flip (f1 f2 t1 t2 h1 h2 p1 p2 : Int) : eS f2 f1 t2 t1 h2 h1 p2 p1 = eS f1 f2 t1 t2 h1 h2 p1 p2 := by
  unfold eS; rw [ar_flip f1 f2 t1 t2 p1 p2, ar_flip f1 f2 t1 t2 h1 h2, sg_neg, sg_neg, Int.neg_mul_neg]
theorem eS_from (f1 f2 t1 t2 h1 h2 : Int) : eS f1 f2 t1 t2 h1 h2 f1 f2 = 0 := by unfold eS; rw [ar_self, ordI_eq rfl]; simp
theorem eS_to (f1 f2 t1 t2 h1 h2 : Int) : eS f1 f2 t1 t2 h1 h2 t1 t2 = 0 := by unfold eS; rw [ar_self2, ordI_eq rfl]; simp
theorem eS_third {f1 f2 t1 t2 h1 h2 : Int} (h : ar f1 f2 t1 t2 h1 h2 ≠ 0) : eS f1 f2 t1 t2 h1 h2 h1 h2 = 1 := by
  unfold eS
  rcases ordI_ways (ar f1 f2 t1 t2 h1 h2) 0 with ⟨_, e⟩ | ⟨k, _⟩ | ⟨_, e⟩
  · rw [e]; rfl
  · exact absurd k h
  · rw [e]; rfl

/-- The greatest side of three points. -/
def x3 (f1 f2 t1 t2 h1 h2 d1 d2 e1 e2 g1 g2 : Int) : Int := max (max (eS f1 f2 t1 t2 h1 h2 d1 d2) (eS f1 f2 t1 t2 h1 h2 e1 e2)) (eS f1 f2 t1 t2 h1 h2 g1 g2)
theorem x3_bd (f1 f2 t1 t2 h1 h2 d1 d2 e1 e2 g1 g2 : Int) : -1 ≤ x3 f1 f2 t1 t2 h1 h2 d1 d2 e1 e2 g1 g2 ∧ x3 f1 f2 t1 t2 h1 h2 d1 d2 e1 e2 g1 g2 ≤ 1 := by
  have i0 := eS_bd f1 f2 t1 t2 h1 h2 d1 d2
  have i1 := eS_bd f1 f2 t1 t2 h1 h2 e1 e2
  have i2 := eS_bd f1 f2 t1 t2 h1 h2 g1 g2
  unfold x3; omega
theorem mx_3 (s : Nat → Int) : mx s 3 = max (max (max (-1) (s 0)) (s 1)) (s 2) := rfl
theorem mx_4 (s : Nat → Int) : mx s 4 = max (max (max (max (-1) (s 0)) (s 1)) (s 2)) (s 3) := rfl
theorem max_low3 {x y z : Int} (h : -1 ≤ x) : max (max (max (-1) x) y) z = max (max x y) z := by
  rw [Int.max_eq_right h]
theorem max_low4 {x y z u : Int} (h : -1 ≤ x) : max (max (max (max (-1) x) y) z) u = max (max (max x y) z) u := by
  rw [Int.max_eq_right h]
theorem min_high3 {u v w : Int} (h : u ≤ 1) : min (min (min 1 u) v) w = min (min u v) w := by
  rw [Int.min_eq_right h]
theorem r3_eq (a1 a2 b1 b2 c1 c2 d1 d2 e1 e2 g1 g2 : Int) :
    r3 a1 a2 b1 b2 c1 c2 d1 d2 e1 e2 g1 g2 = min (min (x3 a1 a2 b1 b2 c1 c2 d1 d2 e1 e2 g1 g2) (x3 b1 b2 c1 c2 a1 a2 d1 d2 e1 e2 g1 g2)) (x3 c1 c2 a1 a2 b1 b2 d1 d2 e1 e2 g1 g2) := by
  unfold r3 rc
  rw [mx_3, mx_3, mx_3, max_low3 (eS_bd _ _ _ _ _ _ _ _).1, max_low3 (eS_bd _ _ _ _ _ _ _ _).1, max_low3 (eS_bd _ _ _ _ _ _ _ _).1]
  exact min_high3 (x3_bd a1 a2 b1 b2 c1 c2 d1 d2 e1 e2 g1 g2).2
theorem r1_is (a1 a2 b1 b2 c1 c2 x y : Int) : r1 a1 a2 b1 b2 c1 c2 x y = min (min (eS a1 a2 b1 b2 c1 c2 x y) (eS b1 b2 c1 c2 a1 a2 x y)) (eS c1 c2 a1 a2 b1 b2 x y) := by
  have h0 := eS_bd a1 a2 b1 b2 c1 c2 x y
  have h1 := eS_bd b1 b2 c1 c2 a1 a2 x y
  have h2 := eS_bd c1 c2 a1 a2 b1 b2 x y
  show min (min (min 1 (max (-1) (eS a1 a2 b1 b2 c1 c2 x y))) (max (-1) (eS b1 b2 c1 c2 a1 a2 x y))) (max (-1) (eS c1 c2 a1 a2 b1 b2 x y)) = _
  omega
def x4 (f1 f2 t1 t2 h1 h2 d1 d2 e1 e2 g1 g2 k1 k2 : Int) : Int := max (x3 f1 f2 t1 t2 h1 h2 d1 d2 e1 e2 g1 g2) (eS f1 f2 t1 t2 h1 h2 k1 k2)
theorem x4_bd (f1 f2 t1 t2 h1 h2 d1 d2 e1 e2 g1 g2 k1 k2 : Int) : -1 ≤ x4 f1 f2 t1 t2 h1 h2 d1 d2 e1 e2 g1 g2 k1 k2 ∧ x4 f1 f2 t1 t2 h1 h2 d1 d2 e1 e2 g1 g2 k1 k2 ≤ 1 := by
  have i0 := x3_bd f1 f2 t1 t2 h1 h2 d1 d2 e1 e2 g1 g2
  have i1 := eS_bd f1 f2 t1 t2 h1 h2 k1 k2
  unfold x4; omega
theorem r4_eq (a1 a2 b1 b2 c1 c2 d1 d2 e1 e2 g1 g2 k1 k2 : Int) :
    r4 a1 a2 b1 b2 c1 c2 d1 d2 e1 e2 g1 g2 k1 k2 = min (min (x4 a1 a2 b1 b2 c1 c2 d1 d2 e1 e2 g1 g2 k1 k2) (x4 b1 b2 c1 c2 a1 a2 d1 d2 e1 e2 g1 g2 k1 k2)) (x4 c1 c2 a1 a2 b1 b2 d1 d2 e1 e2 g1 g2 k1 k2) := by
  unfold r4 rc
  rw [mx_4, mx_4, mx_4, max_low4 (eS_bd _ _ _ _ _ _ _ _).1, max_low4 (eS_bd _ _ _ _ _ _ _ _).1, max_low4 (eS_bd _ _ _ _ _ _ _ _).1]
  exact min_high3 (x4_bd a1 a2 b1 b2 c1 c2 d1 d2 e1 e2 g1 g2 k1 k2).2

/-- What is affine: at a point of a triangle, by its three corners. -/
theorem bary (a1 a2 b1 b2 c1 c2 p1 p2 u v z : Int) :
    ar a1 a2 b1 b2 c1 c2 * (u * p1 + v * p2 + z) = ar b1 b2 c1 c2 p1 p2 * (u * a1 + v * a2 + z) + ar c1 c2 a1 a2 p1 p2 * (u * b1 + v * b2 + z) + ar a1 a2 b1 b2 p1 p2 * (u * c1 + v * c2 + z) := by
  unfold ar; grind
theorem weights (a1 a2 b1 b2 c1 c2 p1 p2 : Int) : ar a1 a2 b1 b2 c1 c2 = ar b1 b2 c1 c2 p1 p2 + ar c1 c2 a1 a2 p1 p2 + ar a1 a2 b1 b2 p1 p2 := by unfold ar; grind
theorem mul_le0 {x y : Int} (hx : 0 ≤ x) (hy : y ≤ 0) : x * y ≤ 0 := by
  have := Int.mul_nonneg hx (show 0 ≤ -y by omega); rw [Int.mul_neg] at this; omega
theorem comb_pos {s w1 w2 w3 g g1 g2 g3 : Int} (hs : 0 < s) (h1 : 0 ≤ w1) (h2 : 0 ≤ w2) (h3 : 0 ≤ w3) (e : s * g = w1 * g1 + w2 * g2 + w3 * g3) (hg : 0 < g) : 0 < g1 ∨ 0 < g2 ∨ 0 < g3 := by
  rcases Int.lt_or_le 0 g1 with k1 | k1
  · exact .inl k1
  rcases Int.lt_or_le 0 g2 with k2 | k2
  · exact .inr (.inl k2)
  rcases Int.lt_or_le 0 g3 with k3 | k3
  · exact .inr (.inr k3)
  have := Int.mul_pos hs hg
  have := mul_le0 h1 k1
  have := mul_le0 h2 k2
  have := mul_le0 h3 k3
  omega
theorem comb_nn {s w1 w2 w3 g g1 g2 g3 : Int} (hs : 0 < s) (h1 : 0 ≤ w1) (h2 : 0 ≤ w2) (h3 : 0 ≤ w3) (hw : s = w1 + w2 + w3) (e : s * g = w1 * g1 + w2 * g2 + w3 * g3) (hg : 0 ≤ g) : 0 ≤ g1 ∨ 0 ≤ g2 ∨ 0 ≤ g3 := by
  have e' : s * (g + 1) = w1 * (g1 + 1) + w2 * (g2 + 1) + w3 * (g3 + 1) := by
    rw [Int.mul_add, Int.mul_add, Int.mul_add, Int.mul_add]; omega
  rcases comb_pos hs h1 h2 h3 e' (by omega) with k | k | k
  · exact .inl (by omega)
  · exact .inr (.inl (by omega))
  · exact .inr (.inr (by omega))
/-- A point of a closed triangle: what is affine and 0 or more there is so at a corner. -/
def Within (a1 a2 b1 b2 c1 c2 p1 p2 : Int) : Prop := ar a1 a2 b1 b2 c1 c2 ≠ 0 ∧ 0 ≤ el a1 a2 b1 b2 c1 c2 p1 p2 ∧ 0 ≤ el b1 b2 c1 c2 a1 a2 p1 p2 ∧ 0 ≤ el c1 c2 a1 a2 b1 b2 p1 p2
theorem within_of {a1 a2 b1 b2 c1 c2 p1 p2 : Int} (h : ar a1 a2 b1 b2 c1 c2 ≠ 0) (k : 0 ≤ r1 a1 a2 b1 b2 c1 c2 p1 p2) : Within a1 a2 b1 b2 c1 c2 p1 p2 := by
  rw [r1_is, eS_el, eS_el, eS_el] at k
  exact ⟨h, sg_nn.1 (by omega), sg_nn.1 (by omega), sg_nn.1 (by omega)⟩
theorem sq_pos {x : Int} (h : x ≠ 0) : 0 < x * x := by
  rcases Int.lt_or_lt_of_ne h with k | k
  · exact Int.mul_pos_of_neg_of_neg k k
  · exact Int.mul_pos k k
theorem within_eq {a1 a2 b1 b2 c1 c2 p1 p2 : Int} (u v z : Int) :
    (ar a1 a2 b1 b2 c1 c2 * ar a1 a2 b1 b2 c1 c2) * (u * p1 + v * p2 + z) = el b1 b2 c1 c2 a1 a2 p1 p2 * (u * a1 + v * a2 + z) + el c1 c2 a1 a2 b1 b2 p1 p2 * (u * b1 + v * b2 + z) + el a1 a2 b1 b2 c1 c2 p1 p2 * (u * c1 + v * c2 + z) := by
  have h := bary a1 a2 b1 b2 c1 c2 p1 p2 u v z
  unfold el
  rw [ar_turn a1 a2 b1 b2 c1 c2, show ar c1 c2 a1 a2 b1 b2 = ar a1 a2 b1 b2 c1 c2 from by rw [ar_turn b1 b2 c1 c2 a1 a2, ar_turn]]
  generalize ar a1 a2 b1 b2 c1 c2 = A at *
  generalize u * p1 + v * p2 + z = g at *
  generalize u * a1 + v * a2 + z = g1 at *
  generalize u * b1 + v * b2 + z = g2 at *
  generalize u * c1 + v * c2 + z = g3 at *
  generalize ar b1 b2 c1 c2 p1 p2 = w1 at *
  generalize ar c1 c2 a1 a2 p1 p2 = w2 at *
  generalize ar a1 a2 b1 b2 p1 p2 = w3 at *
  rw [Int.mul_assoc, h]
  grind
theorem within_sum {a1 a2 b1 b2 c1 c2 p1 p2 : Int} :
    ar a1 a2 b1 b2 c1 c2 * ar a1 a2 b1 b2 c1 c2 = el b1 b2 c1 c2 a1 a2 p1 p2 + el c1 c2 a1 a2 b1 b2 p1 p2 + el a1 a2 b1 b2 c1 c2 p1 p2 := by
  have h := within_eq (a1 := a1) (a2 := a2) (b1 := b1) (b2 := b2) (c1 := c1) (c2 := c2) (p1 := p1) (p2 := p2) 0 0 1
  simpa using h
theorem within_pos {a1 a2 b1 b2 c1 c2 p1 p2 : Int} (h : Within a1 a2 b1 b2 c1 c2 p1 p2) (u v z : Int) (hg : 0 < u * p1 + v * p2 + z) : 0 < u * a1 + v * a2 + z ∨ 0 < u * b1 + v * b2 + z ∨ 0 < u * c1 + v * c2 + z :=
  comb_pos (sq_pos h.1) h.2.2.1 h.2.2.2 h.2.1 (within_eq u v z) hg
theorem within_nn {a1 a2 b1 b2 c1 c2 p1 p2 : Int} (h : Within a1 a2 b1 b2 c1 c2 p1 p2) (u v z : Int) (hg : 0 ≤ u * p1 + v * p2 + z) : 0 ≤ u * a1 + v * a2 + z ∨ 0 ≤ u * b1 + v * b2 + z ∨ 0 ≤ u * c1 + v * c2 + z :=
  comb_nn (sq_pos h.1) h.2.2.1 h.2.2.2 h.2.1 within_sum (within_eq u v z) hg
/-- An edge's side is affine. -/
theorem el_aff (f1 f2 t1 t2 h1 h2 p1 p2 : Int) : el f1 f2 t1 t2 h1 h2 p1 p2 = (-(t2 - f2) * ar f1 f2 t1 t2 h1 h2) * p1 + ((t1 - f1) * ar f1 f2 t1 t2 h1 h2) * p2 + (((t2 - f2) * f1 - (t1 - f1) * f2) * ar f1 f2 t1 t2 h1 h2) := by
  unfold el
  generalize ar f1 f2 t1 t2 h1 h2 = H
  unfold ar
  grind
theorem x3_pos {f1 f2 t1 t2 h1 h2 d1 d2 e1 e2 g1 g2 p1 p2 : Int} (h : Within d1 d2 e1 e2 g1 g2 p1 p2) (k : eS f1 f2 t1 t2 h1 h2 p1 p2 = 1) : x3 f1 f2 t1 t2 h1 h2 d1 d2 e1 e2 g1 g2 = 1 := by
  have hb := x3_bd f1 f2 t1 t2 h1 h2 d1 d2 e1 e2 g1 g2
  rw [eS_el, sg_pos, el_aff] at k
  have q := within_pos h _ _ _ k
  rw [← el_aff f1 f2 t1 t2 h1 h2 d1 d2, ← el_aff f1 f2 t1 t2 h1 h2 e1 e2, ← el_aff f1 f2 t1 t2 h1 h2 g1 g2] at q
  unfold x3 at *
  rcases q with q | q | q <;> (replace q := sg_pos.2 q; rw [← eS_el] at q; omega)
theorem x3_nn {f1 f2 t1 t2 h1 h2 d1 d2 e1 e2 g1 g2 p1 p2 : Int} (h : Within d1 d2 e1 e2 g1 g2 p1 p2) (k : 0 ≤ eS f1 f2 t1 t2 h1 h2 p1 p2) : 0 ≤ x3 f1 f2 t1 t2 h1 h2 d1 d2 e1 e2 g1 g2 := by
  rw [eS_el, sg_nn, el_aff] at k
  have q := within_nn h _ _ _ k
  rw [← el_aff f1 f2 t1 t2 h1 h2 d1 d2, ← el_aff f1 f2 t1 t2 h1 h2 e1 e2, ← el_aff f1 f2 t1 t2 h1 h2 g1 g2] at q
  unfold x3
  rcases q with q | q | q <;> (replace q := sg_nn.2 q; rw [← eS_el] at q; omega)
theorem r3_pos {a1 a2 b1 b2 c1 c2 d1 d2 e1 e2 g1 g2 p1 p2 : Int} (h : Within d1 d2 e1 e2 g1 g2 p1 p2) (k : r1 a1 a2 b1 b2 c1 c2 p1 p2 = 1) : r3 a1 a2 b1 b2 c1 c2 d1 d2 e1 e2 g1 g2 = 1 := by
  rw [r1_is] at k
  have h0 := eS_bd a1 a2 b1 b2 c1 c2 p1 p2
  have h1 := eS_bd b1 b2 c1 c2 a1 a2 p1 p2
  have h2 := eS_bd c1 c2 a1 a2 b1 b2 p1 p2
  rw [r3_eq, x3_pos h (by omega), x3_pos h (by omega), x3_pos h (by omega)]; rfl
theorem r3_nn {a1 a2 b1 b2 c1 c2 d1 d2 e1 e2 g1 g2 p1 p2 : Int} (h : Within d1 d2 e1 e2 g1 g2 p1 p2) (k : 0 ≤ r1 a1 a2 b1 b2 c1 c2 p1 p2) : 0 ≤ r3 a1 a2 b1 b2 c1 c2 d1 d2 e1 e2 g1 g2 := by
  rw [r1_is] at k
  rw [r3_eq]
  have q0 := x3_nn h (f1 := a1) (f2 := a2) (t1 := b1) (t2 := b2) (h1 := c1) (h2 := c2) (by omega)
  have q1 := x3_nn h (f1 := b1) (f2 := b2) (t1 := c1) (t2 := c2) (h1 := a1) (h2 := a2) (by omega)
  have q2 := x3_nn h (f1 := c1) (f2 := c2) (t1 := a1) (t2 := a2) (h1 := b1) (h2 := b2) (by omega)
  omega
/-- A point inside both: they overlap; a point in both: they touch. -/
theorem mu_pos {a1 a2 b1 b2 c1 c2 d1 d2 e1 e2 g1 g2 p1 p2 : Int} (ha : ar a1 a2 b1 b2 c1 c2 ≠ 0) (hd : ar d1 d2 e1 e2 g1 g2 ≠ 0) (k : r1 a1 a2 b1 b2 c1 c2 p1 p2 = 1) (l : r1 d1 d2 e1 e2 g1 g2 p1 p2 = 1) :
    mu a1 a2 b1 b2 c1 c2 d1 d2 e1 e2 g1 g2 = 1 := by
  unfold mu
  rw [r3_pos (within_of hd (by omega)) k, r3_pos (within_of ha (by omega)) l]; rfl
theorem mu_nn {a1 a2 b1 b2 c1 c2 d1 d2 e1 e2 g1 g2 p1 p2 : Int} (ha : ar a1 a2 b1 b2 c1 c2 ≠ 0) (hd : ar d1 d2 e1 e2 g1 g2 ≠ 0) (k : 0 ≤ r1 a1 a2 b1 b2 c1 c2 p1 p2) (l : 0 ≤ r1 d1 d2 e1 e2 g1 g2 p1 p2) :
    0 ≤ mu a1 a2 b1 b2 c1 c2 d1 d2 e1 e2 g1 g2 := by
  unfold mu
  have := r3_nn (within_of hd l) k
  have := r3_nn (within_of ha k) l
  omega
end Go.Proofs.Ytcnbbanpnoigdaa
/-
  Plain geometry: triangles turned round, with two places changed, seen from the other side. No program in sight.
-/
namespace Go.Proofs.Ytcnbbanpnoigdaa

theorem min_turn (x y z : Int) : min (min y z) x = min (min x y) z := by omega
theorem max_turn (x y z : Int) : max (max y z) x = max (max x y) z := by omega
theorem ar_turn2 (a1 a2 b1 b2 c1 c2 : Int) : ar c1 c2 a1 a2 b1 b2 = ar a1 a2 b1 b2 c1 c2 := by rw [ar_turn b1 b2 c1 c2 a1 a2, ar_turn]
theorem rT_turn (a1 a2 b1 b2 c1 c2 : Int) : rT b1 b2 c1 c2 a1 a2 = rT a1 a2 b1 b2 c1 c2 := by
  unfold rT
  rw [ar_turn a1 a2 b1 b2 c1 c2]
  cases s2 a1 a2 <;> cases s2 b1 b2 <;> cases s2 c1 c2 <;> rfl
theorem rT_swap (a1 a2 b1 b2 c1 c2 : Int) : rT b1 b2 a1 a2 c1 c2 = rT a1 a2 b1 b2 c1 c2 := by
  unfold rT
  rw [ar_swap a1 a2 b1 b2 c1 c2]
  have : (-ar a1 a2 b1 b2 c1 c2 != 0) = (ar a1 a2 b1 b2 c1 c2 != 0) := by
    generalize ar a1 a2 b1 b2 c1 c2 = n
    cases h : (n != 0) with
    | true => simp at h ⊢; exact h
    | false => simp at h ⊢; exact h
  rw [this]
  cases s2 a1 a2 <;> cases s2 b1 b2 <;> cases s2 c1 c2 <;> rfl
theorem r1_turn (a1 a2 b1 b2 c1 c2 x y : Int) : r1 b1 b2 c1 c2 a1 a2 x y = r1 a1 a2 b1 b2 c1 c2 x y := by
  rw [r1_is, r1_is]; exact min_turn _ _ _
theorem x3_turn (f1 f2 t1 t2 h1 h2 d1 d2 e1 e2 g1 g2 : Int) : x3 f1 f2 t1 t2 h1 h2 e1 e2 g1 g2 d1 d2 = x3 f1 f2 t1 t2 h1 h2 d1 d2 e1 e2 g1 g2 := by
  unfold x3; exact max_turn _ _ _
theorem x3_change (f1 f2 t1 t2 h1 h2 d1 d2 e1 e2 g1 g2 : Int) : x3 f1 f2 t1 t2 h1 h2 e1 e2 d1 d2 g1 g2 = x3 f1 f2 t1 t2 h1 h2 d1 d2 e1 e2 g1 g2 := by
  unfold x3; rw [Int.max_comm (eS f1 f2 t1 t2 h1 h2 e1 e2)]
theorem x3_swap (f1 f2 t1 t2 h1 h2 d1 d2 e1 e2 g1 g2 : Int) : x3 t1 t2 f1 f2 h1 h2 d1 d2 e1 e2 g1 g2 = x3 f1 f2 t1 t2 h1 h2 d1 d2 e1 e2 g1 g2 := by
  unfold x3; rw [eS_swap f1 f2 t1 t2 h1 h2 d1 d2, eS_swap f1 f2 t1 t2 h1 h2 e1 e2, eS_swap f1 f2 t1 t2 h1 h2 g1 g2]
theorem x3_flip (f1 f2 t1 t2 h1 h2 d1 d2 e1 e2 g1 g2 : Int) : x3 f2 f1 t2 t1 h2 h1 d2 d1 e2 e1 g2 g1 = x3 f1 f2 t1 t2 h1 h2 d1 d2 e1 e2 g1 g2 := by
  unfold x3; rw [eS_flip f1 f2 t1 t2 h1 h2 d1 d2, eS_flip f1 f2 t1 t2 h1 h2 e1 e2, eS_flip f1 f2 t1 t2 h1 h2 g1 g2]
section
variable (a1 a2 b1 b2 c1 c2 d1 d2 e1 e2 g1 g2 : Int)
theorem r3_turnA : r3 b1 b2 c1 c2 a1 a2 d1 d2 e1 e2 g1 g2 = r3 a1 a2 b1 b2 c1 c2 d1 d2 e1 e2 g1 g2 := by
  rw [r3_eq, r3_eq]; exact min_turn _ _ _
theorem r3_turnD : r3 a1 a2 b1 b2 c1 c2 e1 e2 g1 g2 d1 d2 = r3 a1 a2 b1 b2 c1 c2 d1 d2 e1 e2 g1 g2 := by
  rw [r3_eq, r3_eq, x3_turn a1, x3_turn b1, x3_turn c1]
theorem r3_swapA : r3 b1 b2 a1 a2 c1 c2 d1 d2 e1 e2 g1 g2 = r3 a1 a2 b1 b2 c1 c2 d1 d2 e1 e2 g1 g2 := by
  rw [r3_eq, r3_eq, x3_swap a1 a2 b1 b2 c1 c2, x3_swap c1 c2 a1 a2 b1 b2, x3_swap b1 b2 c1 c2 a1 a2]
  omega
theorem r3_swapD : r3 a1 a2 b1 b2 c1 c2 e1 e2 d1 d2 g1 g2 = r3 a1 a2 b1 b2 c1 c2 d1 d2 e1 e2 g1 g2 := by
  rw [r3_eq, r3_eq, x3_change a1, x3_change b1, x3_change c1]
theorem r3_flip : r3 a2 a1 b2 b1 c2 c1 d2 d1 e2 e1 g2 g1 = r3 a1 a2 b1 b2 c1 c2 d1 d2 e1 e2 g1 g2 := by
  rw [r3_eq, r3_eq, x3_flip a1 a2, x3_flip b1 b2, x3_flip c1 c2]
theorem mu_comm : mu d1 d2 e1 e2 g1 g2 a1 a2 b1 b2 c1 c2 = mu a1 a2 b1 b2 c1 c2 d1 d2 e1 e2 g1 g2 := by
  unfold mu; exact Int.min_comm _ _
theorem mu_turnA : mu b1 b2 c1 c2 a1 a2 d1 d2 e1 e2 g1 g2 = mu a1 a2 b1 b2 c1 c2 d1 d2 e1 e2 g1 g2 := by
  unfold mu; rw [r3_turnA a1 a2 b1 b2 c1 c2 d1 d2 e1 e2 g1 g2, r3_turnD d1 d2 e1 e2 g1 g2 a1 a2 b1 b2 c1 c2]
theorem mu_turnD : mu a1 a2 b1 b2 c1 c2 e1 e2 g1 g2 d1 d2 = mu a1 a2 b1 b2 c1 c2 d1 d2 e1 e2 g1 g2 := by
  unfold mu; rw [r3_turnD a1 a2 b1 b2 c1 c2 d1 d2 e1 e2 g1 g2, r3_turnA d1 d2 e1 e2 g1 g2 a1 a2 b1 b2 c1 c2]
theorem mu_swapA : mu b1 b2 a1 a2 c1 c2 d1 d2 e1 e2 g1 g2 = mu a1 a2 b1 b2 c1 c2 d1 d2 e1 e2 g1 g2 := by
  unfold mu; rw [r3_swapA a1 a2 b1 b2 c1 c2 d1 d2 e1 e2 g1 g2, r3_swapD d1 d2 e1 e2 g1 g2 a1 a2 b1 b2 c1 c2]
theorem mu_swapD : mu a1 a2 b1 b2 c1 c2 e1 e2 d1 d2 g1 g2 = mu a1 a2 b1 b2 c1 c2 d1 d2 e1 e2 g1 g2 := by
  unfold mu; rw [r3_swapD a1 a2 b1 b2 c1 c2 d1 d2 e1 e2 g1 g2, r3_swapA d1 d2 e1 e2 g1 g2 a1 a2 b1 b2 c1 c2]
theorem mu_flip : mu a2 a1 b2 b1 c2 c1 d2 d1 e2 e1 g2 g1 = mu a1 a2 b1 b2 c1 c2 d1 d2 e1 e2 g1 g2 := by
  unfold mu; rw [r3_flip a1 a2 b1 b2 c1 c2 d1 d2 e1 e2 g1 g2, r3_flip d1 d2 e1 e2 g1 g2 a1 a2 b1 b2 c1 c2]
/-- Both ways are one; one turned round, the other with two places changed. -/
theorem mu_turns : mu e1 e2 d1 d2 g1 g2 b1 b2 c1 c2 a1 a2 = mu a1 a2 b1 b2 c1 c2 d1 d2 e1 e2 g1 g2 := by
  rw [mu_comm b1 b2 c1 c2 a1 a2 e1 e2 d1 d2 g1 g2, mu_turnA a1 a2 b1 b2 c1 c2 e1 e2 d1 d2 g1 g2, mu_swapD a1 a2 b1 b2 c1 c2 d1 d2 e1 e2 g1 g2]
theorem r4_turn (k1 k2 : Int) : r4 b1 b2 c1 c2 a1 a2 d1 d2 e1 e2 g1 g2 k1 k2 = r4 a1 a2 b1 b2 c1 c2 d1 d2 e1 e2 g1 g2 k1 k2 := by
  rw [r4_eq, r4_eq]; exact min_turn _ _ _
theorem cB_turn (x y fx fy : Int) : cB x y fx fy b1 b2 c1 c2 a1 a2 = cB x y fx fy a1 a2 b1 b2 c1 c2 := by
  unfold cB; rw [min_turn a1 b1 c1, min_turn a2 b2 c2, max_turn a1 b1 c1, max_turn a2 b2 c2]
theorem sqV_turn (x y s : Int) : sqV x y s b1 b2 c1 c2 a1 a2 = sqV x y s a1 a2 b1 b2 c1 c2 := by
  unfold sqV; rw [rT_turn, cB_turn, r4_turn]
end
end Go.Proofs.Ytcnbbanpnoigdaa
/-
  Charts, pure: a mesh whose triangles' first two corners are changed has its facings turned, and nothing else.
-/
namespace Go.Proofs.Ytcnbbanpnoigdaa

theorem ar_over (a b c d e f : Int) : ar c d a b e f = -ar a b c d e f := by unfold ar; grind
variable {n : Nat} {FV FC GC : Nat → Nat → Int} (h : ∀ i, i < n → GC i 0 = FC i 3 ∧ GC i 3 = FC i 0 ∧ GC i 6 = FC i 6)
include h
theorem pp_turn {i : Nat} (hi : i < n) (j : Nat) : pp FV GC i 0 j = pp FV FC i 1 j ∧ pp FV GC i 1 j = pp FV FC i 0 j ∧ pp FV GC i 2 j = pp FV FC i 2 j := by
  obtain ⟨a, b, c⟩ := h i hi
  unfold pp
  rw [show (0 * 3 : Nat) = 0 from rfl, show (1 * 3 : Nat) = 3 from rfl, show (2 * 3 : Nat) = 6 from rfl, a, b, c]
  exact ⟨rfl, rfl, rfl⟩
theorem nm_turn {i : Nat} (hi : i < n) : nmA FV GC i = -nmA FV FC i ∧ nmB FV GC i = -nmB FV FC i ∧ nmC FV GC i = -nmC FV FC i := by
  obtain ⟨a0, b0, c0⟩ := pp_turn (FV := FV) h hi 0
  obtain ⟨a1, b1, c1⟩ := pp_turn (FV := FV) h hi 1
  obtain ⟨a2, b2, c2⟩ := pp_turn (FV := FV) h hi 2
  unfold nmA nmB nmC
  rw [a0, a1, a2, b0, b1, b2, c0, c1, c2]
  exact ⟨ar_over _ _ _ _ _ _, ar_over _ _ _ _ _ _, ar_over _ _ _ _ _ _⟩
theorem sh_turn {i : Nat} (hi : i < n) (ax : Nat) : (shX FV GC ax i 0 = shX FV FC ax i 1 ∧ shX FV GC ax i 1 = shX FV FC ax i 0 ∧ shX FV GC ax i 2 = shX FV FC ax i 2) ∧ shY FV GC ax i 0 = shY FV FC ax i 1 ∧ shY FV GC ax i 1 = shY FV FC ax i 0 ∧ shY FV GC ax i 2 = shY FV FC ax i 2 := by
  obtain ⟨a0, b0, c0⟩ := pp_turn (FV := FV) h hi 0
  obtain ⟨a1, b1, c1⟩ := pp_turn (FV := FV) h hi 1
  obtain ⟨a2, b2, c2⟩ := pp_turn (FV := FV) h hi 2
  unfold shX shY
  simp only [a0, a1, a2, b0, b1, b2, c0, c1, c2, and_self]
theorem ov_turn {i k : Nat} (hi : i < n) (hk : k < n) (ax : Nat) : ovB FV GC ax i k = ovB FV FC ax i k := by
  obtain ⟨⟨a, b, c⟩, d, e, f⟩ := sh_turn (FV := FV) h hi ax
  obtain ⟨⟨a', b', c'⟩, d', e', f'⟩ := sh_turn (FV := FV) h hk ax
  unfold ovB shR shM
  rw [a, b, c, d, e, f, a', b', c', d', e', f', rT_swap (shX FV FC ax i 0) (shY FV FC ax i 0), rT_swap (shX FV FC ax k 0) (shY FV FC ax k 0), mu_swapA, mu_swapD]
theorem nx_turn {i k : Nat} (hi : i < n) (hk : k < n) : nxB GC i k = nxB FC i k := nxB_turn h hi hk
theorem nxL_turn {i : Nat} (hi : i < n) : ∀ m, m ≤ n → nxL GC i m = nxL FC i m
  | 0, _ => rfl
  | m + 1, q => by
    have z := nxL_turn hi m (by omega)
    unfold nxL
    rw [z, nx_turn h hi (show m < n by omega)]
theorem ch_turned (t : Bool) : (chF t n FV FC).Turned (chF t n FV GC) := by
  have pl : ∀ i, (chF t n FV FC).K i = true → t = true ∧ plB i n = true ∧ i.toNat < n := fun i hi => by
    have z : ((t && plB i n) && (fcE true (nmA FV FC i.toNat) (nmB FV FC i.toNat) (nmC FV FC i.toNat) == 0)) = true := hi
    have y := (Bool.and_eq_true_iff.1 (Bool.and_eq_true_iff.1 z).1)
    have p := plB_iff.1 y.2
    exact ⟨y.1, y.2, by omega⟩
  refine ⟨rfl, fun i hi => ?_, fun i hi => ?_, fun i => ?_, fun ax i k hi hk => ?_, fun i k hi hk => ?_⟩
  · obtain ⟨p, q, r⟩ := pl i hi
    obtain ⟨a, b, c⟩ := nm_turn (FV := FV) h r
    show vF _ (fcA true _ _ _) = vF _ (fcA true _ _ _)
    rw [a, b, c, fcA_neg]
  · obtain ⟨p, q, r⟩ := pl i hi
    obtain ⟨a, b, c⟩ := nm_turn (FV := FV) h r
    show vF (t && plB i n) (fcS true _ _ _) = -vF (t && plB i n) (fcS true _ _ _)
    rw [a, b, c, fcS_neg, p, q]
    rfl
  · show ((t && plB i n) && (fcE true _ _ _ == 0)) = ((t && plB i n) && (fcE true _ _ _ == 0))
    cases q : plB i n with
    | false => rw [Bool.and_false]; rfl
    | true =>
      have p := plB_iff.1 q
      obtain ⟨a, b, c⟩ := nm_turn (FV := FV) h (show i.toNat < n by omega)
      rw [a, b, c, fcE_neg]
  · exact ov_turn h (pl i hi).2.2 (pl k hk).2.2 _
  · obtain ⟨p, q, r⟩ := pl i hi
    show isIn (nxA (okN t i n) GC i n) k = isIn (nxA (okN t i n) FC i n) k
    unfold nxA
    rw [nxL_turn h r n (Nat.le_refl n)]
end Go.Proofs.Ytcnbbanpnoigdaa
/-
  The reference limewashref15: Same of charts (as limewashref14's Same of edges).
-/
namespace Go.Proofs.Ytcnbbanpnoigdaa
open Go.RowKit

set_option maxRecDepth 100000 in
set_option maxHeartbeats 16000000 in
theorem rsame_charts (a b : Option Addr) (n m c d : Nat) (L M : List (Int × Int × List Int)) (w : World) (hl : RowC w a n L) (hm : RowC w b m M) (hn : n ≤ 9223372036854775806) (hk : m ≤ 9223372036854775806) :
    Calls Try.prog 18 #[.slice a n c, .slice b m d] w fun e w' => e = .returned (.bool (seB L M)) ∧ Below w.heap.size w w' := by
  have HB := Lib.hid (Below.refl w.heap.size w)
  have hll := Lib.hid hl.1
  have hml := Lib.hid hm.1
  by_cases hnm : n = m
  · subst hnm
    have RL := Lib.hid hl
    have RM := Lib.hid hm
    clear hl hm
    go_enter Try.func18, Try.ntmps18
    go_wp2_with fail
    go_loopw [5] (fun x wr => ∃ k : Nat, x = .int .i64 k ∧ k ≤ n ∧ (∀ j, j < k → L[j]? = M[j]?) ∧ Below w.heap.size w wr) (fun x _ => n - (intOf x).toNat)
    case atStart => exact ⟨0, rfl, Nat.zero_le _, fun j h => absurd h (by omega), HB.out⟩
    case round =>
      clear HB
      obtain ⟨k, rfl, hk', hR, hB⟩ := hrel
      have HB := Lib.hid hB
      have HR := Lib.hid hR
      clear hB hR
      by_cases hlt : k < n
      · obtain ⟨p, o, t, m1, ct, x, y, l, rfl, hb, hL, hx, hy, hz, hr, -, hmc1, hcm⟩ := (RL.out.keep HB.out).at hlt
        obtain ⟨p2, o2, t2, m2, ct2, x2, y2, l2, rfl, hb2, hL2, hx2, hy2, hz2, hr2, -, hmc2, hcm2⟩ := (RM.out.keep HB.out).at hlt
        have YES : Hid ((x, y, l) = (x2, y2, l2) → ∀ j, j < k + 1 → L[j]? = M[j]?) := Lib.hid (fun e j hj => by
          by_cases s : j = k
          · rw [s, hL, hL2, e]
          · exact HR.out j (by omega))
        have NO : Hid (¬ (x, y, l) = (x2, y2, l2) → seB L M = false) := Lib.hid (fun e => se_no hL hL2 e)
        have SM := Lib.hid (fun D : Of (PastV wr) => rsame_list t t2 m1 m2 ct ct2 l l2 D.world (hr.keep (show Below wr.heap.size wr D.world from D.holds)) (hr2.keep (show Below wr.heap.size wr D.world from D.holds)) (by omega) (by omega))
        rw [← Nat.add_assoc] at hy hz hy2 hz2
        have d0 : ∀ D : Of (PastV wr), _ := fun D => keepc (show Below wr.heap.size wr D.world from D.holds) hx
        have d1 : ∀ D : Of (PastV wr), _ := fun D => keepc (show Below wr.heap.size wr D.world from D.holds) hy
        have d2 : ∀ D : Of (PastV wr), _ := fun D => keepc (show Below wr.heap.size wr D.world from D.holds) hz
        have e0 : ∀ D : Of (PastV wr), _ := fun D => keepc (show Below wr.heap.size wr D.world from D.holds) hx2
        have e1 : ∀ D : Of (PastV wr), _ := fun D => keepc (show Below wr.heap.size wr D.world from D.holds) hy2
        have e2 : ∀ D : Of (PastV wr), _ := fun D => keepc (show Below wr.heap.size wr D.world from D.holds) hz2
        clear hL hL2 hx hy hz hx2 hy2 hz2 hr hr2 hmc1 hmc2 hcm hcm2
        have ST := Lib.hid (pastV_stays wr)
        have ne : Nonempty (Of (PastV wr)) := ⟨⟨wr, Below.refl _ _⟩⟩
        have i0 : (0 : Int) ≤ (k : Int) := by omega
        have i1 : (k : Int) < (n : Int) := by omega
        have i2 : ((k : Int)).toNat = k := by omega
        go_upto_region 6 with fail
        by_cases g1 : x = x2
        · subst g1
          by_cases g2 : y = y2
          · subst g2
            cases g3 : smB l l2 with
            | false =>
              have E := Lib.hid (NO.out (by intro e; have := (Prod.mk.inj (Prod.mk.inj e).2).2; rw [this, smB_self] at g3; cases g3))
              rw [g3] at SM
              clear YES NO g3
              refine wp_region_class (S := PastV wr) (by kernel_rfl) (by kernel_rfl) (Below.refl _ _).drew ?_
              repeat (go_big_quiet_step (first | (go_at_call 36; first | (with_reducible exact class_call ST.out _ (SM.out _)))))
              refine wpQuiet_nil ?_
              rintro _ ⟨D, rfl⟩
              have hD : Below wr.heap.size wr D.world := D.holds
              go_wp2
              go_ret
              exact ⟨by rw [E.out]; rfl, HB.out.trans (hD.mono HB.out.size)⟩
            | true =>
              have E := Lib.hid (YES.out (by rw [of_decide_eq_true g3]))
              rw [g3] at SM
              clear YES NO g3
              refine wp_region_class (S := PastV wr) (by kernel_rfl) (by kernel_rfl) (Below.refl _ _).drew ?_
              repeat (go_big_quiet_step (first | (go_at_call 36; first | (with_reducible exact class_call ST.out _ (SM.out _)))))
              refine wpQuiet_nil ?_
              rintro _ ⟨D, rfl⟩
              have hD : Below wr.heap.size wr D.world := D.holds
              go_wp2
              go_roundw
              case rel => exact ⟨k + 1, by go_num, hlt, E.out, HB.out.trans (hD.mono HB.out.size)⟩
              case measure => simp [intOf]; omega
          · have ng2 : (y == y2) = false := by rw [beq_eq_false_iff_ne]; exact g2
            have mg2 : (y != y2) = true := by rw [bne, ng2]; rfl
            have E := Lib.hid (NO.out (by intro e; exact g2 (Prod.mk.inj (Prod.mk.inj e).2).1))
            clear YES NO
            refine wp_region_class (S := PastV wr) (by kernel_rfl) (by kernel_rfl) (Below.refl _ _).drew ?_
            repeat (go_big_quiet_step (first | (go_at_call 36; first | (with_reducible exact class_call ST.out _ (SM.out _)))))
            refine wpQuiet_nil ?_
            rintro _ ⟨D, rfl⟩
            have hD : Below wr.heap.size wr D.world := D.holds
            go_wp2
            go_ret
            exact ⟨by rw [E.out]; rfl, HB.out.trans (hD.mono HB.out.size)⟩
        · have ng1 : (x == x2) = false := by rw [beq_eq_false_iff_ne]; exact g1
          have mg1 : (x != x2) = true := by rw [bne, ng1]; rfl
          have E := Lib.hid (NO.out (by intro e; exact g1 (Prod.mk.inj e).1))
          clear YES NO
          refine wp_region_class (S := PastV wr) (by kernel_rfl) (by kernel_rfl) (Below.refl _ _).drew ?_
          repeat (go_big_quiet_step (first | (go_at_call 36; first | (with_reducible exact class_call ST.out _ (SM.out _)))))
          refine wpQuiet_nil ?_
          rintro _ ⟨D, rfl⟩
          have hD : Below wr.heap.size wr D.world := D.holds
          go_wp2
          go_ret
          exact ⟨by rw [E.out]; rfl, HB.out.trans (hD.mono HB.out.size)⟩
      · obtain rfl : k = n := by omega
        have E : Hid (seB L M = true) := Lib.hid (decide_eq_true (by
          apply List.ext_getElem?
          intro i
          rcases Nat.lt_or_ge i k with h | h
          · exact HR.out i h
          · rw [List.getElem?_eq_none (by have := hll.out; omega), List.getElem?_eq_none (by have := hml.out; omega)]))
        go_wp2
        go_ret
        exact ⟨by rw [E.out]; rfl, HB.out⟩
  · have E : Hid (seB L M = false) := Lib.hid (decide_eq_false (fun h => hnm (by rw [← hll.out, ← hml.out, h])))
    have h1 : ¬ (n : Int) = (m : Int) := by omega
    have h2 : ((n : Int) == (m : Int)) = false := by rw [beq_eq_false_iff_ne]; exact h1
    clear hl hm
    go_enter Try.func18, Try.ntmps18
    go_wp2
    go_ret
    exact ⟨by rw [E.out]; rfl, HB.out⟩
end Go.Proofs.Ytcnbbanpnoigdaa
/-
  Charts: triangles turned over, in memory and by what they tell. No program is run here.
-/
namespace Go.Proofs.Ytcnbbanpnoigdaa
open Go.RowKit

/-- The first k triangles turned over: their first two corners changed. -/
def swP (j : Nat) : Nat := if j < 3 then j + 3 else if j < 6 then j - 3 else j
def swF (FC : Nat → Nat → Int) (k i j : Nat) : Int := if i < k then FC i (swP j) else FC i j
theorem swF_0 (FC : Nat → Nat → Int) : swF FC 0 = FC := by
  funext i j
  unfold swF
  rw [if_neg (by omega)]
theorem swF_at (FC : Nat → Nat → Int) {k i : Nat} (h : k ≤ i) (j : Nat) : swF FC k i j = FC i j := by
  unfold swF
  rw [if_neg (by omega)]
theorem tr_turn {n1 n2 n3 : Nat} {c d : Nat → Int} (h : ∀ j, j < 9 → d j = c (swP j)) (t : trB n1 n2 n3 c = true) : trB n1 n2 n3 d = true := by
  rw [trB_iff] at t ⊢
  have t0 := cnB_iff.1 (t 0 (by omega))
  have t1 := cnB_iff.1 (t 1 (by omega))
  have t2 := cnB_iff.1 (t 2 (by omega))
  have e0 := h 0 (by omega)
  have e1 := h 1 (by omega)
  have e2 := h 2 (by omega)
  have e3 := h 3 (by omega)
  have e4 := h 4 (by omega)
  have e5 := h 5 (by omega)
  have e6 := h 6 (by omega)
  have e7 := h 7 (by omega)
  have e8 := h 8 (by omega)
  simp only [swP] at e0 e1 e2 e3 e4 e5 e6 e7 e8
  simp at e0 e1 e2 e3 e4 e5 e6 e7 e8
  simp only [Nat.zero_mul, Nat.one_mul, Nat.zero_add, Nat.reduceMul, Nat.reduceAdd] at t0 t1 t2
  intro k hk
  rw [cnB_iff]
  rcases show k = 0 ∨ k = 1 ∨ k = 2 by omega with rfl | rfl | rfl
  · simp only [Nat.zero_mul, Nat.zero_add, e0, e1, e2]
    exact ⟨t1.1, t1.2.1, t1.2.2.1, by first | trivial | exact Iff.rfl, by first | trivial | exact Iff.rfl⟩
  · simp only [Nat.one_mul, Nat.reduceAdd, e1, e2, e3, e4, e5]
    exact ⟨t0.1, t0.2.1, t0.2.2.1, t1.2.2.2.1.symm, t1.2.2.2.2.symm⟩
  · simp only [Nat.reduceMul, Nat.reduceAdd, e1, e2, e6, e7, e8]
    exact ⟨t2.1, t2.2.1, t2.2.2.1, t2.2.2.2.1.trans t1.2.2.2.1.symm, t2.2.2.2.2.trans t1.2.2.2.2.symm⟩
theorem swP_back {j : Nat} (h : j < 9) : swP (swP j) = j := by
  unfold swP
  split
  · rw [if_neg (by omega), if_pos (by omega)]; omega
  · split
    · rw [if_pos (by omega)]; omega
    · rfl
theorem swP_lt {j : Nat} (h : j < 9) : swP j < 9 := by
  unfold swP
  split
  · omega
  · split <;> omega
theorem tr_turn2 {n1 n2 n3 : Nat} {c d : Nat → Int} (h : ∀ j, j < 9 → d j = c (swP j)) : trB n1 n2 n3 d = trB n1 n2 n3 c := by
  rw [Bool.eq_iff_iff]
  exact ⟨tr_turn (fun j hj => by rw [h _ (swP_lt hj), swP_back hj]), tr_turn h⟩
theorem allB_congr {P Q : Nat → Bool} {n : Nat} (h : ∀ i, i < n → P i = Q i) : allB P n = allB Q n := by
  rw [Bool.eq_iff_iff, allB_iff, allB_iff]
  exact ⟨fun q i hi => by rw [← h i hi]; exact q i hi, fun q i hi => by rw [h i hi]; exact q i hi⟩
theorem tm_turn (n1 n2 n3 n4 : Nat) (FV FT FN FC : Nat → Nat → Int) : tmB n1 n2 n3 n4 FV FT FN (swF FC n4) = tmB n1 n2 n3 n4 FV FT FN FC := by
  unfold tmB msB
  rw [allB_congr (P := fun i => trB n1 n2 n3 (swF FC n4 i)) (Q := fun i => trB n1 n2 n3 (FC i)) fun i hi => tr_turn2 fun j _ => by unfold swF; rw [if_pos hi]]
theorem sw_three (FC : Nat → Nat → Int) (n : Nat) : ∀ i, i < n → swF FC n i 0 = FC i 3 ∧ swF FC n i 3 = FC i 0 ∧ swF FC n i 6 = FC i 6 := fun i hi => by
  unfold swF
  rw [if_pos hi, if_pos hi, if_pos hi]
  exact ⟨rfl, rfl, rfl⟩
theorem chA_turn (t : Bool) (n : Nat) (FV FC : Nat → Nat → Int) : chA t n FV (swF FC n) = (chA t n FV FC).map ChF.turnC := by
  unfold chA
  cases t with
  | false => rfl
  | true => exact ChF.grow_turn _ (ch_turned (sw_three FC n) true) n
theorem chA_len (t : Bool) (n : Nat) (FV FC : Nat → Nat → Int) : (chA t n FV FC).length ≤ n := by
  unfold chA
  cases t with
  | false => exact Nat.zero_le _
  | true => exact grow_short _ n
/-- Sides of charts are 1 or -1 or none. -/
theorem side_small {t : Bool} {n : Nat} {FV FC : Nat → Nat → Int} {c : ChT} (h : c ∈ chA t n FV FC) : -1 ≤ c.2.1 ∧ c.2.1 ≤ 1 := by
  unfold chA at h
  cases t with
  | false => cases h
  | true =>
    rw [if_pos rfl] at h
    obtain ⟨h0, _, hf⟩ := (chF true n FV FC).grow_at (show c ∈ (chF true n FV FC).grow (chF true n FV FC).n from h)
    obtain ⟨x, hx⟩ := List.exists_mem_of_length_pos h0
    have z := ((ChF.fb_iff _).1 (hf x hx).2.2.2).2.2
    rw [← z]
    show -1 ≤ vF _ (fcS true _ _ _) ∧ vF _ (fcS true _ _ _) ≤ 1
    unfold vF fcS
    split
    · split
      · rcases ordI_ways (pt (nmA FV FC x.toNat) (nmB FV FC x.toNat) (nmC FV FC x.toNat) (axF (nmA FV FC x.toNat) (nmB FV FC x.toNat) (nmC FV FC x.toNat) 3)) 0 with ⟨_, e⟩ | ⟨_, e⟩ | ⟨_, e⟩ <;> rw [e] <;> omega
      · omega
    · omega
/-- A cell of a row of the call's own is set. -/
theorem own_set {w : World} {base : Nat} {e : TypeId} {k g n cap q : Nat} {xs : List Value} (h : w.ownsRow base e k (.slice (some ⟨g, 0, none⟩) n cap) n xs) (x : Value) : (w.setCell ⟨g, q, none⟩ x).ownsRow base e k (.slice (some ⟨g, 0, none⟩) n cap) n (xs.set q x) := by
  obtain ⟨h1, ⟨hv, _⟩ | ⟨g', cap', cur, hv, hg, hh, hn, hm, hs, ht⟩⟩ := h
  · cases hv
  · cases hv
    refine ⟨by rw [List.length_set]; exact h1, .inr ⟨g, cap, cur.setIfInBounds q x, rfl, hg, Lok.set (W := w) (t := e) hh, hn, hm, by simpa using hs, ?_⟩⟩
    rw [Array.toList_setIfInBounds, List.take_set, ht]
theorem own_frozen {w : World} {base : Nat} {e : TypeId} {k g n cap : Nat} {xs : List Value} (h : w.ownsRow base e k (.slice (some ⟨g, 0, none⟩) n cap) n xs) (q : Nat) : w.frozen? ⟨g, q, none⟩ = false := by
  obtain ⟨h1, ⟨hv, _⟩ | ⟨g', cap', cur, hv, hg, hh, hn, hm, hs, ht⟩⟩ := h
  · cases hv
  · cases hv
    exact Lok.frozen (W := w) (t := e) hh q
theorem own_cell {w : World} {base : Nat} {e : TypeId} {k g n cap : Nat} {xs : List Value} (h : w.ownsRow base e k (.slice (some ⟨g, 0, none⟩) n cap) n xs) {q : Nat} {u : Value} (hu : xs[q]? = some u) : w.cell? ⟨g, q, none⟩ = some u := by
  have z := h.cells (g := g) rfl q u hu
  rwa [Go.WideShapes.add_plain, Nat.zero_add] at z
theorem row_apart {w : World} {b1 b2 : Nat} {e1 e2 : TypeId} {k1 k2 n1 n2 g cap q : Nat} {v : Value} {xs ys : List Value} {x : Value} (h : w.ownsRow b1 e1 k1 v n1 xs) (h2 : w.ownsRow b2 e2 k2 (.slice (some ⟨g, 0, none⟩) n2 cap) n2 ys) (ne : ¬ e1 = e2) : (w.setCell ⟨g, q, none⟩ x).ownsRow b1 e1 k1 v n1 xs := by
  obtain ⟨_, ⟨hv, _⟩ | ⟨g', cap', cur, hv, hg, hh, _⟩⟩ := h2
  · cases hv
  · cases hv
    exact ownR_block h fun b z => Below.heap_setCell w ⟨g, q, none⟩ x b (fun e => ownR_lok h (show Lok w g e2 cur from hh) ne (by rw [z, show b = g from e]))
/-- Nine cells of a triangle. -/
def set9 (xs : List Value) (i : Nat) (a0 a1 a2 a3 a4 a5 a6 a7 a8 : Value) : List Value := ((((((((xs.set (i * 9) a0).set (i * 9 + 1) a1).set (i * 9 + 2) a2).set (i * 9 + 3) a3).set (i * 9 + 4) a4).set (i * 9 + 5) a5).set (i * 9 + 6) a6).set (i * 9 + 7) a7).set (i * 9 + 8) a8
theorem set9_at {xs : List Value} {i : Nat} {f : Nat → Value} (hl : i * 9 + 8 < xs.length) (q : Nat) : (set9 xs i (f 0) (f 1) (f 2) (f 3) (f 4) (f 5) (f 6) (f 7) (f 8))[q]? = if i * 9 ≤ q ∧ q < i * 9 + 9 then some (f (q - i * 9)) else xs[q]? := by
  unfold set9
  simp only [List.getElem?_set, List.length_set]
  by_cases h : i * 9 ≤ q ∧ q < i * 9 + 9
  · rw [if_pos h]
    obtain ⟨j, rfl⟩ : ∃ j, q = i * 9 + j := ⟨q - i * 9, by omega⟩
    rw [Nat.add_sub_cancel_left]
    rcases show j = 0 ∨ j = 1 ∨ j = 2 ∨ j = 3 ∨ j = 4 ∨ j = 5 ∨ j = 6 ∨ j = 7 ∨ j = 8 by omega with rfl | rfl | rfl | rfl | rfl | rfl | rfl | rfl | rfl
    · rw [if_neg (by omega), if_neg (by omega), if_neg (by omega), if_neg (by omega), if_neg (by omega), if_neg (by omega), if_neg (by omega), if_neg (by omega), if_pos (by omega), if_pos (by omega)]
    · rw [if_neg (by omega), if_neg (by omega), if_neg (by omega), if_neg (by omega), if_neg (by omega), if_neg (by omega), if_neg (by omega), if_pos rfl, if_pos (by omega)]
    · rw [if_neg (by omega), if_neg (by omega), if_neg (by omega), if_neg (by omega), if_neg (by omega), if_neg (by omega), if_pos rfl, if_pos (by omega)]
    · rw [if_neg (by omega), if_neg (by omega), if_neg (by omega), if_neg (by omega), if_neg (by omega), if_pos rfl, if_pos (by omega)]
    · rw [if_neg (by omega), if_neg (by omega), if_neg (by omega), if_neg (by omega), if_pos rfl, if_pos (by omega)]
    · rw [if_neg (by omega), if_neg (by omega), if_neg (by omega), if_pos rfl, if_pos (by omega)]
    · rw [if_neg (by omega), if_neg (by omega), if_pos rfl, if_pos (by omega)]
    · rw [if_neg (by omega), if_pos rfl, if_pos (by omega)]
    · rw [if_pos rfl, if_pos (by omega)]
  · rw [if_neg h, if_neg (by omega), if_neg (by omega), if_neg (by omega), if_neg (by omega), if_neg (by omega), if_neg (by omega), if_neg (by omega), if_neg (by omega), if_neg (by omega)]
theorem set9_turn (FC : Nat → Nat → Int) {n i : Nat} (hi : i < n) : set9 (valsK n 9 (swF FC i)) i (.int .i64 (FC i 3)) (.int .i64 (FC i 4)) (.int .i64 (FC i 5)) (.int .i64 (FC i 0)) (.int .i64 (FC i 1)) (.int .i64 (FC i 2)) (.int .i64 (FC i 6)) (.int .i64 (FC i 7)) (.int .i64 (FC i 8)) = valsK n 9 (swF FC (i + 1)) := by
  apply List.ext_getElem?
  intro q
  have hl : i * 9 + 8 < (valsK n 9 (swF FC i)).length := by rw [valsK_length]; omega
  have z := set9_at (f := fun j => Value.int .i64 (FC i (swP j))) hl q
  have e : ∀ j, j = 0 ∨ j = 1 ∨ j = 2 ∨ j = 3 ∨ j = 4 ∨ j = 5 ∨ j = 6 ∨ j = 7 ∨ j = 8 → True := fun _ _ => trivial
  rw [show swP 0 = 3 from rfl, show swP 1 = 4 from rfl, show swP 2 = 5 from rfl, show swP 3 = 0 from rfl, show swP 4 = 1 from rfl, show swP 5 = 2 from rfl, show swP 6 = 6 from rfl, show swP 7 = 7 from rfl, show swP 8 = 8 from rfl] at z
  rw [z]
  by_cases hq : q < n * 9
  · have h1 : q / 9 < n := by omega
    have h2 : q % 9 < 9 := by omega
    have e1 : q = q / 9 * 9 + q % 9 := by omega
    by_cases h : i * 9 ≤ q ∧ q < i * 9 + 9
    · rw [if_pos h]
      have h3 : q / 9 = i := by omega
      have h4 : q - i * 9 = q % 9 := by omega
      conv => rhs; rw [e1]
      rw [valsK_get _ h1 h2, h3, h4]
      unfold swF
      rw [if_pos (by omega)]
    · rw [if_neg h]
      have h3 : ¬ q / 9 = i := by omega
      conv => lhs; rw [e1]
      conv => rhs; rw [e1]
      rw [valsK_get _ h1 h2, valsK_get _ h1 h2]
      unfold swF
      by_cases c : q / 9 < i
      · rw [if_pos c, if_pos (by omega)]
      · rw [if_neg c, if_neg (by omega)]
  · rw [if_neg (by omega), List.getElem?_eq_none (by rw [valsK_length]; omega), List.getElem?_eq_none (by rw [valsK_length]; omega)]
/-- A chart's side is set. -/
theorem ownC_set {w : World} {B g cap i : Nat} {Z : List CtZ} (h : OwnC w B (.slice (some ⟨g, 0, none⟩) Z.length cap) Z) (hi : i < Z.length) (x : Int) : OwnC (w.setCell ⟨g, i * 3 + 1, none⟩ (.int .i64 x)) B (.slice (some ⟨g, 0, none⟩) Z.length cap) (Z.set i (Z[i].1, x, Z[i].2.2.1, Z[i].2.2.2)) := by
  have hc : ∀ (Z : List CtZ) (i : Nat) (hi : i < Z.length), (cellsC Z).set (i * 3 + 1) (.int .i64 x) = cellsC (Z.set i (Z[i].1, x, Z[i].2.2.1, Z[i].2.2.2)) := by
    intro Z
    induction Z with
    | nil => intro i hi; exact absurd hi (by simp)
    | cons z Z ih =>
      intro i hi
      cases i with
      | zero => rfl
      | succ i =>
        have hi' : i < Z.length := by simpa using hi
        show ([_, _, _] ++ cellsC Z).set ((i + 1) * 3 + 1) _ = [_, _, _] ++ cellsC (Z.set i _)
        rw [List.set_append_right _ _ (by show 3 ≤ _; omega), show (i + 1) * 3 + 1 - [Value.int .i64 z.1, Value.int .i64 z.2.1, z.2.2.2].length = i * 3 + 1 by show (i + 1) * 3 + 1 - 3 = _; omega, ih i hi']
        rfl
  refine ⟨?_, fun z hz => ?_⟩
  · rw [← hc Z i hi, List.length_set]
    exact own_set h.1 _
  · have key : ∀ y ∈ Z, OwnI (w.setCell ⟨g, i * 3 + 1, none⟩ (.int .i64 x)) B y.2.2.2 y.2.2.1 := fun y hy => ownI_block (h.2 y hy).1 fun b q => Below.heap_setCell w ⟨g, i * 3 + 1, none⟩ _ b (fun e => (h.2 y hy).2 b q (by rw [show b = g from e]; rfl))
    rcases List.mem_or_eq_of_mem_set hz with hz | rfl
    · exact ⟨key z hz, (h.2 z hz).2⟩
    · exact ⟨key Z[i] (List.getElem_mem hi), (h.2 Z[i] (List.getElem_mem hi)).2⟩
end Go.Proofs.Ytcnbbanpnoigdaa
