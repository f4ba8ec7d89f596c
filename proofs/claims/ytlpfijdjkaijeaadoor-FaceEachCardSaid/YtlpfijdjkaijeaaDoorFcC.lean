/-
  Package face: Corner. (gen/FcC.py)
-/
import Derived.Test.YtlpfijdjkaijeaaDoorFcB
namespace Go.Proofs.YtlpfijdjkaijeaaDoor
open Go.RowKit

def retC (p : Int × Int × Int × Int) : Ending := .returned (.tuple #[.agg #[.int .i64 p.1, .int .i64 p.2.1, .int .i64 p.2.2.1], .int .i64 p.2.2.2])
def pl (p q r : Int) (k : Nat) : Array Value := #[.int .i64 (if 0 < k then p else -1), .int .i64 (if 1 < k then q else -1), .int .i64 (if 2 < k then r else -1)]
def errs (p q r : Int) (k : Nat) : Prop := (0 < k → p = 0) ∧ (1 < k → q = 0) ∧ (2 < k → r = 0)
theorem placeO_some {s : ByteArray} (m : Int) (h : ¬ s.size = 0) : placeO s.data.toList m = placeS s.data.toList m := if_neg (fun q => h ((empty_iff s).1 q))
theorem placeO_none {s : ByteArray} (m : Int) (h : s.size = 0) : placeO s.data.toList m = (-1, 0) := if_pos ((empty_iff s).2 h)

theorem idx3_0 (a b c : ByteArray) (W : World) : (Instr.index 48 (.agg #[.string a, .string b, .string c]) (.int .i64 0)).run Tryd.prog W = .ok (.string a) W := by
  simp [Instr.index, asIntOf, run_underlying Tryd.underlying48, go_sem]
theorem idx3_1 (a b c : ByteArray) (W : World) : (Instr.index 48 (.agg #[.string a, .string b, .string c]) (.int .i64 1)).run Tryd.prog W = .ok (.string b) W := by
  simp [Instr.index, asIntOf, run_underlying Tryd.underlying48, go_sem]
theorem idx3_2 (a b c : ByteArray) (W : World) : (Instr.index 48 (.agg #[.string a, .string b, .string c]) (.int .i64 2)).run Tryd.prog W = .ok (.string c) W := by
  simp [Instr.index, asIntOf, run_underlying Tryd.underlying48, go_sem]

set_option maxRecDepth 100000 in
set_option maxHeartbeats 4000000 in
theorem corner_any (s : ByteArray) (v t n : Int) (w : World) (hs : s.size ≤ 1000) (bv : -9223372036854775808 ≤ v ∧ v ≤ 9223372036854775807) (bt : -9223372036854775808 ≤ t ∧ t ≤ 9223372036854775807) (bn : -9223372036854775808 ≤ n ∧ n ≤ 9223372036854775807) :
    Calls Tryd.prog 9 #[.string s, .int .i64 v, .int .i64 t, .int .i64 n] w fun e w' => e = retC (cornerS s.data.toList v t n) ∧ Below w.heap.size w w' := by
  have C0 := Lib.hid (fun W => cut_any3 s W hs)
  unfold cornerS
  generalize hf : formS (partsS s.data.toList) = f at *
  have BV := Lib.hid bv
  have BT := Lib.hid bt
  have BN := Lib.hid bn
  have HF := Lib.hid hf
  clear hs bv bt bn hf
  go_enter Tryd.func9, Tryd.ntmps9
  go_upto_region 1 with fail
  have hbr := below_new1 w (.cells #[.int .i64 0, .int .i64 0, .int .i64 0] 23)
  have zr : (w.alloc (.cells #[.int .i64 0, .int .i64 0, .int .i64 0] 23)).heap.size = w.heap.size + 1 := by simp
  have HB := Lib.hid hbr
  have kr := Lib.hid (Lok.new w 23 #[.int .i64 0, .int .i64 0, .int .i64 0])
  clear hbr
  generalize w.alloc (.cells #[.int .i64 0, .int .i64 0, .int .i64 0] 23) = Vr at *
  clear zr
  go_wp2_with fail
  (with_reducible refine (C0.out _).mono ?_); rintro e w1 ⟨hb, ⟨hn, rfl⟩ | ⟨a, b, c, hn, rfl⟩⟩
  all_goals
    replace HB := Lib.hid (HB.out.trans (hb.mono HB.out.size))
    replace kr := Lib.hid (kr.out.keep hb)
    have gr := kr.out.lt
    clear hb C0
  · have hf : Hid (f = none) := Lib.hid (HF.out.symm.trans hn)
    clear hn HF
    go_upto_region 2 with fail
    have hbx := below_new1 w1 (.cells #[.string ⟨#[]⟩, .string ⟨#[]⟩, .string ⟨#[]⟩] 48)
    replace kr := Lib.hid (kr.out.keep hbx)
    have zx : (w1.alloc (.cells #[.string ⟨#[]⟩, .string ⟨#[]⟩, .string ⟨#[]⟩] 48)).heap.size = w1.heap.size + 1 := by simp
    replace HB := Lib.hid (HB.out.trans (hbx.mono HB.out.size))
    have kx := Lib.hid (Lok.new w1 48 #[.string ⟨#[]⟩, .string ⟨#[]⟩, .string ⟨#[]⟩])
    clear hbx
    generalize w1.alloc (.cells #[.string ⟨#[]⟩, .string ⟨#[]⟩, .string ⟨#[]⟩] 48) = Vx at *
    clear zx kx
    have z0 := kr.out.cell (i := 0) rfl
    have z1 := kr.out.cell (i := 1) rfl
    have z2 := kr.out.cell (i := 2) rfl
    have f0 := kr.out.frozen 0
    have f1 := kr.out.frozen 1
    have f2 := kr.out.frozen 2
    go_wp2_with fail
    exact bodyPost_ret (v := .tuple #[.agg #[.int .i64 (0), .int .i64 (0), .int .i64 (0)], .int .i64 (6)]) (by simp [results, Tryd.results9, go_sem, z0, z1, z2]) rfl ⟨by rw [hf.out]; rfl, ((HB.out.setCell (by simp) _).setCell (by simp) _).setCell (by simp) _⟩
  · have hf : Hid (f = some (a.data.toList, b.data.toList, c.data.toList)) := Lib.hid (HF.out.symm.trans hn)
    clear hn HF
    go_upto_region 2 with fail
    have hbx := below_new1 w1 (.cells #[.string a, .string b, .string c] 48)
    replace kr := Lib.hid (kr.out.keep hbx)
    have zx : (w1.alloc (.cells #[.string a, .string b, .string c] 48)).heap.size = w1.heap.size + 1 := by simp
    replace HB := Lib.hid (HB.out.trans (hbx.mono HB.out.size))
    have kx := Lib.hid (Lok.new w1 48 #[.string a, .string b, .string c])
    clear hbx
    generalize w1.alloc (.cells #[.string a, .string b, .string c] 48) = Vx at *
    have gx1 := kx.out.lt
    clear zx
    generalize w1.heap.size = gx at *
    go_upto_region 5 with fail
    have hbm := below_new1 Vx (.cells #[.int .i64 v, .int .i64 t, .int .i64 n] 51)
    replace kr := Lib.hid (kr.out.keep hbm)
    replace kx := Lib.hid (kx.out.keep hbm)
    have zm : (Vx.alloc (.cells #[.int .i64 v, .int .i64 t, .int .i64 n] 51)).heap.size = Vx.heap.size + 1 := by simp
    replace HB := Lib.hid (HB.out.trans (hbm.mono HB.out.size))
    have km := Lib.hid (Lok.new Vx 51 #[.int .i64 v, .int .i64 t, .int .i64 n])
    clear hbm
    generalize Vx.alloc (.cells #[.int .i64 v, .int .i64 t, .int .i64 n] 51) = Vm at *
    have gm1 : w.heap.size < Vx.heap.size := by omega
    have gm2 := km.out.lt
    clear zm
    generalize Vx.heap.size = gm at *
    go_upto_region 6 with fail
    have hbp := below_new1 Vm (.cells #[.int .i64 (-1), .int .i64 (-1), .int .i64 (-1)] 51)
    replace kr := Lib.hid (kr.out.keep hbp)
    replace kx := Lib.hid (kx.out.keep hbp)
    replace km := Lib.hid (km.out.keep hbp)
    have zp : (Vm.alloc (.cells #[.int .i64 (-1), .int .i64 (-1), .int .i64 (-1)] 51)).heap.size = Vm.heap.size + 1 := by simp
    replace HB := Lib.hid (HB.out.trans (hbp.mono HB.out.size))
    have kp := Lib.hid (Lok.new Vm 51 #[.int .i64 (-1), .int .i64 (-1), .int .i64 (-1)])
    clear hbp
    generalize Vm.alloc (.cells #[.int .i64 (-1), .int .i64 (-1), .int .i64 (-1)] 51) = Vp at *
    have gp1 : gm < Vm.heap.size := by omega
    clear zp
    generalize Vm.heap.size = gp at *
    have x0 := kx.out.cell (i := 0) rfl
    have x1 := kx.out.cell (i := 1) rfl
    have x2 := kx.out.cell (i := 2) rfl
    clear gr
    go_wp2_with fail
    clear x0 x1 x2 kx
    have HE : Hid (cornerF f v t n = cornerT a.data.toList b.data.toList c.data.toList v t n) := Lib.hid (by rw [hf.out]; rfl)
    clear hf
    unfold cornerT at HE
    have P0 := Lib.hid (fun (h : ¬ a.size = 0) W => placeO_some v h ▸ place_any a v W BV.out)
    have P1 := Lib.hid (fun (h : ¬ b.size = 0) W => placeO_some t h ▸ place_any b t W BT.out)
    have P2 := Lib.hid (fun (h : ¬ c.size = 0) W => placeO_some n h ▸ place_any c n W BN.out)
    have N0 := Lib.hid (fun (h : a.size = 0) => placeO_none v h)
    have N1 := Lib.hid (fun (h : b.size = 0) => placeO_none t h)
    have N2 := Lib.hid (fun (h : c.size = 0) => placeO_none n h)
    generalize placeO a.data.toList v = p at *
    generalize placeO b.data.toList t = q at *
    generalize placeO c.data.toList n = r at *
    obtain ⟨p, pe⟩ := p
    obtain ⟨q, qe⟩ := q
    obtain ⟨r, re⟩ := r
    dsimp only at HE P0 P1 P2 N0 N1 N2
    unfold retW at P0 P1 P2
    dsimp only at P0 P1 P2
    go_loopw [32] (fun x wr => ∃ k : Nat, x = .int .i64 k ∧ k ≤ 3 ∧ errs pe qe re k ∧ Lok wr gp 51 (pl p q r k) ∧ Lok wr gm 51 #[.int .i64 v, .int .i64 t, .int .i64 n] ∧ Lok wr w.heap.size 23 #[.int .i64 0, .int .i64 0, .int .i64 0] ∧ Below w.heap.size w wr) (fun x _ => 3 - (intOf x).toNat)
    case atStart => exact ⟨0, rfl, Nat.zero_le _, ⟨fun h => by omega, fun h => by omega, fun h => by omega⟩, kp.out, km.out, kr.out, HB.out⟩
    case round =>
      clear HB kr km kp
      obtain ⟨k, rfl, hk, hE, hP, hM, hR, hB⟩ := hrel
      have HB := Lib.hid hB
      have kp := Lib.hid hP
      have km := Lib.hid hM
      have kr := Lib.hid hR
      clear hP hM hR hB
      rcases (by omega : k = 0 ∨ k = 1 ∨ k = 2 ∨ k = 3) with rfl | rfl | rfl | rfl
      · clear hE hk
        by_cases hz : a.size = 0
        · have e1 : a.toList.isEmpty = true := by rw [Lib.toList_data, (empty_iff a).2 hz]; rfl
          have n1 := N0.out hz
          obtain ⟨rfl, rfl⟩ := Prod.mk.inj n1
          clear n1 N0 P0
          have ix := fun W => idx3_0 a b c W
          go_wp2_with fail
          go_roundw
          case rel => exact ⟨1, by go_num, by decide, ⟨fun _ => rfl, fun h => by omega, fun h => by omega⟩, kp.out, km.out, kr.out, HB.out⟩
          case measure => simp [intOf]
        · have e1 : a.toList.isEmpty = false := by
            rw [Lib.toList_data]
            cases h : a.data.toList with
            | nil => exact absurd ((empty_iff a).1 h) hz
            | cons _ _ => rfl
          have C := Lib.hid (P0.out hz)
          clear N0 P0 hz
          have m0 := km.out.cell (i := 0) rfl
          have ix := fun W => idx3_0 a b c W
          by_cases h0 : pe = 0
          · subst h0
            go_wp2_with fail
            (((with_reducible refine (C.out _).mono ?_); rintro e w2 ⟨rfl, hb2⟩); replace HB := Lib.hid (HB.out.trans (hb2.mono HB.out.size)); replace kp := Lib.hid (kp.out.keep hb2); replace km := Lib.hid (km.out.keep hb2); replace kr := Lib.hid (kr.out.keep hb2); clear hb2)
            have p0 := kp.out.cell (i := 0) rfl
            have f0 := kp.out.frozen 0
            clear m0
            go_wp2_with fail
            have kp' := Lib.hid (kp.out.set (i := 0) (v := .int .i64 p))
            have km' := Lib.hid (km.out.far (i := 0) (v := .int .i64 p) (show gm ≠ gp by omega))
            have kr' := Lib.hid (kr.out.far (i := 0) (v := .int .i64 p) (show w.heap.size ≠ gp by omega))
            go_roundw
            case rel => exact ⟨1, by go_num, by decide, ⟨fun _ => rfl, fun h => by omega, fun h => by omega⟩, kp'.out, km'.out, kr'.out, HB.out.setCell (show w.heap.size ≤ gp by omega) _⟩
            case measure => simp [intOf]
          · have x1 : (pe != 0) = true := by simp [h0]
            rw [if_pos h0] at HE
            clear kp
            go_wp2_with fail
            (((with_reducible refine (C.out _).mono ?_); rintro e w2 ⟨rfl, hb2⟩); replace HB := Lib.hid (HB.out.trans (hb2.mono HB.out.size)); replace kr := Lib.hid (kr.out.keep hb2); clear hb2)
            have z0 := kr.out.cell (i := 0) rfl
            have z1 := kr.out.cell (i := 1) rfl
            have z2 := kr.out.cell (i := 2) rfl
            have f0 := kr.out.frozen 0
            have f1 := kr.out.frozen 1
            have f2 := kr.out.frozen 2
            go_wp2_with fail
            exact bodyPost_ret (v := .tuple #[.agg #[.int .i64 (0), .int .i64 (0), .int .i64 (0)], .int .i64 (pe)]) (by simp [results, Tryd.results9, go_sem, z0, z1, z2]) rfl ⟨by rw [HE.out]; rfl, ((HB.out.setCell (by simp) _).setCell (by simp) _).setCell (by simp) _⟩
      · have e0 : pe = 0 := hE.1 (by decide)
        subst e0
        clear hE hk
        rw [if_neg (by decide)] at HE
        by_cases hz : b.size = 0
        · have e1 : b.toList.isEmpty = true := by rw [Lib.toList_data, (empty_iff b).2 hz]; rfl
          have n1 := N1.out hz
          obtain ⟨rfl, rfl⟩ := Prod.mk.inj n1
          clear n1 N1 P1
          have ix := fun W => idx3_1 a b c W
          go_wp2_with fail
          go_roundw
          case rel => exact ⟨2, by go_num, by decide, ⟨fun _ => rfl, fun _ => rfl, fun h => by omega⟩, kp.out, km.out, kr.out, HB.out⟩
          case measure => simp [intOf]
        · have e1 : b.toList.isEmpty = false := by
            rw [Lib.toList_data]
            cases h : b.data.toList with
            | nil => exact absurd ((empty_iff b).1 h) hz
            | cons _ _ => rfl
          have C := Lib.hid (P1.out hz)
          clear N1 P1 hz
          have m0 := km.out.cell (i := 1) rfl
          have ix := fun W => idx3_1 a b c W
          by_cases h0 : qe = 0
          · subst h0
            go_wp2_with fail
            (((with_reducible refine (C.out _).mono ?_); rintro e w2 ⟨rfl, hb2⟩); replace HB := Lib.hid (HB.out.trans (hb2.mono HB.out.size)); replace kp := Lib.hid (kp.out.keep hb2); replace km := Lib.hid (km.out.keep hb2); replace kr := Lib.hid (kr.out.keep hb2); clear hb2)
            have p0 := kp.out.cell (i := 1) rfl
            have f0 := kp.out.frozen 1
            clear m0
            go_wp2_with fail
            have kp' := Lib.hid (kp.out.set (i := 1) (v := .int .i64 q))
            have km' := Lib.hid (km.out.far (i := 1) (v := .int .i64 q) (show gm ≠ gp by omega))
            have kr' := Lib.hid (kr.out.far (i := 1) (v := .int .i64 q) (show w.heap.size ≠ gp by omega))
            go_roundw
            case rel => exact ⟨2, by go_num, by decide, ⟨fun _ => rfl, fun _ => rfl, fun h => by omega⟩, kp'.out, km'.out, kr'.out, HB.out.setCell (show w.heap.size ≤ gp by omega) _⟩
            case measure => simp [intOf]
          · have x1 : (qe != 0) = true := by simp [h0]
            rw [if_pos h0] at HE
            clear kp
            go_wp2_with fail
            (((with_reducible refine (C.out _).mono ?_); rintro e w2 ⟨rfl, hb2⟩); replace HB := Lib.hid (HB.out.trans (hb2.mono HB.out.size)); replace kr := Lib.hid (kr.out.keep hb2); clear hb2)
            have z0 := kr.out.cell (i := 0) rfl
            have z1 := kr.out.cell (i := 1) rfl
            have z2 := kr.out.cell (i := 2) rfl
            have f0 := kr.out.frozen 0
            have f1 := kr.out.frozen 1
            have f2 := kr.out.frozen 2
            go_wp2_with fail
            exact bodyPost_ret (v := .tuple #[.agg #[.int .i64 (0), .int .i64 (0), .int .i64 (0)], .int .i64 (qe)]) (by simp [results, Tryd.results9, go_sem, z0, z1, z2]) rfl ⟨by rw [HE.out]; rfl, ((HB.out.setCell (by simp) _).setCell (by simp) _).setCell (by simp) _⟩
      · have e0 : pe = 0 := hE.1 (by decide)
        subst e0
        have e1 : qe = 0 := hE.2.1 (by decide)
        subst e1
        clear hE hk
        rw [if_neg (by decide)] at HE
        rw [if_neg (by decide)] at HE
        by_cases hz : c.size = 0
        · have e1 : c.toList.isEmpty = true := by rw [Lib.toList_data, (empty_iff c).2 hz]; rfl
          have n1 := N2.out hz
          obtain ⟨rfl, rfl⟩ := Prod.mk.inj n1
          clear n1 N2 P2
          have ix := fun W => idx3_2 a b c W
          go_wp2_with fail
          go_roundw
          case rel => exact ⟨3, by go_num, by decide, ⟨fun _ => rfl, fun _ => rfl, fun _ => rfl⟩, kp.out, km.out, kr.out, HB.out⟩
          case measure => simp [intOf]
        · have e1 : c.toList.isEmpty = false := by
            rw [Lib.toList_data]
            cases h : c.data.toList with
            | nil => exact absurd ((empty_iff c).1 h) hz
            | cons _ _ => rfl
          have C := Lib.hid (P2.out hz)
          clear N2 P2 hz
          have m0 := km.out.cell (i := 2) rfl
          have ix := fun W => idx3_2 a b c W
          by_cases h0 : re = 0
          · subst h0
            go_wp2_with fail
            (((with_reducible refine (C.out _).mono ?_); rintro e w2 ⟨rfl, hb2⟩); replace HB := Lib.hid (HB.out.trans (hb2.mono HB.out.size)); replace kp := Lib.hid (kp.out.keep hb2); replace km := Lib.hid (km.out.keep hb2); replace kr := Lib.hid (kr.out.keep hb2); clear hb2)
            have p0 := kp.out.cell (i := 2) rfl
            have f0 := kp.out.frozen 2
            clear m0
            go_wp2_with fail
            have kp' := Lib.hid (kp.out.set (i := 2) (v := .int .i64 r))
            have km' := Lib.hid (km.out.far (i := 2) (v := .int .i64 r) (show gm ≠ gp by omega))
            have kr' := Lib.hid (kr.out.far (i := 2) (v := .int .i64 r) (show w.heap.size ≠ gp by omega))
            go_roundw
            case rel => exact ⟨3, by go_num, by decide, ⟨fun _ => rfl, fun _ => rfl, fun _ => rfl⟩, kp'.out, km'.out, kr'.out, HB.out.setCell (show w.heap.size ≤ gp by omega) _⟩
            case measure => simp [intOf]
          · have x1 : (re != 0) = true := by simp [h0]
            rw [if_pos h0] at HE
            clear kp
            go_wp2_with fail
            (((with_reducible refine (C.out _).mono ?_); rintro e w2 ⟨rfl, hb2⟩); replace HB := Lib.hid (HB.out.trans (hb2.mono HB.out.size)); replace kr := Lib.hid (kr.out.keep hb2); clear hb2)
            have z0 := kr.out.cell (i := 0) rfl
            have z1 := kr.out.cell (i := 1) rfl
            have z2 := kr.out.cell (i := 2) rfl
            have f0 := kr.out.frozen 0
            have f1 := kr.out.frozen 1
            have f2 := kr.out.frozen 2
            go_wp2_with fail
            exact bodyPost_ret (v := .tuple #[.agg #[.int .i64 (0), .int .i64 (0), .int .i64 (0)], .int .i64 (re)]) (by simp [results, Tryd.results9, go_sem, z0, z1, z2]) rfl ⟨by rw [HE.out]; rfl, ((HB.out.setCell (by simp) _).setCell (by simp) _).setCell (by simp) _⟩
      · have e0 : pe = 0 := hE.1 (by decide)
        have e1 : qe = 0 := hE.2.1 (by decide)
        have e2 : re = 0 := hE.2.2 (by decide)
        subst e0 e1 e2
        rw [if_neg (by decide), if_neg (by decide), if_neg (by decide)] at HE
        clear hE hk
        replace kp : Hid (Lok wr gp 51 #[.int .i64 p, .int .i64 q, .int .i64 r]) := kp
        have p0 := kp.out.cell (i := 0) rfl
        have p1 := kp.out.cell (i := 1) rfl
        have p2 := kp.out.cell (i := 2) rfl
        have z0 := kr.out.cell (i := 0) rfl
        have z1 := kr.out.cell (i := 1) rfl
        have z2 := kr.out.cell (i := 2) rfl
        have f0 := kr.out.frozen 0
        have f1 := kr.out.frozen 1
        have f2 := kr.out.frozen 2
        go_wp2_with fail
        exact bodyPost_ret (v := .tuple #[.agg #[.int .i64 (p), .int .i64 (q), .int .i64 (r)], .int .i64 (0)]) (by simp [results, Tryd.results9, go_sem, z0, z1, z2]) rfl ⟨by rw [HE.out]; rfl, ((HB.out.setCell (by simp) _).setCell (by simp) _).setCell (by simp) _⟩
end Go.Proofs.YtlpfijdjkaijeaaDoor
