/-
  The law ChartTurned. (gen/ChCS.py)
-/
import Derived.Test.YtcnbbanpnoigdaaHt
import Derived.BigRegion
import Derived.BigQuiet
namespace Go.Proofs.Ytcnbbanpnoigdaa
open Go.RowKit

set_option maxRecDepth 100000 in
set_option maxHeartbeats 32000000 in
theorem law_turned (pa1 pa2 pa3 pa4 : Option Addr) (n1 n2 n3 n4 c1 c2 c3 c4 : Nat) (FV FT FN FC : Nat → Nat → Int) (w : World) (hm : RowK w pa1 n1 3 FV ∧ RowK w pa2 n2 2 FT ∧ RowK w pa3 n3 3 FN ∧ RowK w pa4 n4 9 FC) (hz : (pa1 = none → n1 = 0 ∧ c1 = 0) ∧ (pa2 = none → n2 = 0 ∧ c2 = 0) ∧ (pa3 = none → n3 = 0 ∧ c3 = 0) ∧ (pa4 = none → n4 = 0 ∧ c4 = 0)) :
    Calls Try.prog 6 #[.agg #[.slice pa1 n1 c1, .slice pa2 n2 c2, .slice pa3 n3 c3, .slice pa4 n4 c4]] w fun e w' => e = .returned (.bool true) ∧ Below w.heap.size w w' := by
  have E := chart_ok
  have HB := Lib.hid (Below.refl w.heap.size w)
  have FW := Lib.hid (fun W => rfew15_any pa1 pa2 pa3 pa4 n1 n2 n3 n4 c1 c2 c3 c4 W)
  cases hf : fw15 n1 n2 n3 n4 with
  | false =>
    rw [hf] at FW
    clear hm hz E
    go_enter Try.func6, Try.ntmps6
    go_upto_region 1 with fail
    have hbm := below_new1 w (.cells #[.slice pa1 n1 c1, .slice pa2 n2 c2, .slice pa3 n3 c3, .slice pa4 n4 c4] 26)
    have zm : (w.alloc (.cells #[.slice pa1 n1 c1, .slice pa2 n2 c2, .slice pa3 n3 c3, .slice pa4 n4 c4] 26)).heap.size = w.heap.size + 1 := by simp
    have HB := Lib.hid hbm
    have km := Lib.hid (Lok.new w 26 #[.slice pa1 n1 c1, .slice pa2 n2 c2, .slice pa3 n3 c3, .slice pa4 n4 c4])
    clear hbm
    generalize w.alloc (.cells #[.slice pa1 n1 c1, .slice pa2 n2 c2, .slice pa3 n3 c3, .slice pa4 n4 c4] 26) = Vm at *
    clear zm
    have m0 := km.out.cell (i := 0) rfl
    have m1 := km.out.cell (i := 1) rfl
    have m2 := km.out.cell (i := 2) rfl
    have m3 := km.out.cell (i := 3) rfl
    go_wp2_with fail
    clear m0 m1 m2 m3
    (((with_reducible refine (FW.out _).mono ?_); rintro e w1 ⟨rfl, hb1⟩); replace HB := Lib.hid (HB.out.trans (hb1.mono HB.out.size)); replace km := Lib.hid (km.out.keep hb1); clear hb1)
    clear km
    go_wp2
    go_ret
    exact ⟨rfl, HB.out⟩
  | true =>
    have q := fw15_yes hf
    rw [hf] at FW
    have M := Lib.hid (show MsW w pa1 pa2 pa3 pa4 n1 n2 n3 n4 FV FT FN FC from ⟨hm, by omega, by omega, by omega, by omega⟩)
    have OW := Lib.hid (fun W (h : Below w.heap.size w W) => rown08_any pa1 pa2 pa3 pa4 n1 n2 n3 n4 c1 c2 c3 c4 FV FT FN FC W (M.out.keep h) hz ⟨by omega, by omega, by omega, by omega⟩)
    have GR := Lib.hid (fun W (h : Below w.heap.size w W) => E.grow pa1 pa2 pa3 pa4 n1 n2 n3 n4 c1 c2 c3 c4 FV FT FN FC W (M.out.keep h) q.1.1 q.2)
    have GN := Lib.hid (fun b1 b2 b3 b4 d1 d2 d3 d4 W (h : MsW W b1 b2 b3 b4 n1 n2 n3 n4 FV FT FN (swF FC n4)) => E.grow b1 b2 b3 b4 n1 n2 n3 n4 d1 d2 d3 d4 FV FT FN (swF FC n4) W h q.1.1 q.2)
    rw [tm_turn] at GN
    have SD := Lib.hid (fun c (h : c ∈ chA (tmB n1 n2 n3 n4 FV FT FN FC) n4 FV FC) => side_small h)
    have CTN := chA_turn (tmB n1 n2 n3 n4 FV FT FN FC) n4 FV FC
    rw [CTN] at GN
    clear CTN hf hm hz E M
    have hCL : (chA (tmB n1 n2 n3 n4 FV FT FN FC) n4 FV FC).length ≤ 12 := Nat.le_trans (chA_len _ _ _ _) q.2
    have hn4 : n4 ≤ 12 := q.2
    have hns : n1 ≤ 60 ∧ n2 ≤ 60 ∧ n3 ≤ 60 := by omega
    clear q
    generalize tmB n1 n2 n3 n4 FV FT FN FC = t at *
    generalize chA t n4 FV FC = CH at *
    go_enter Try.func6, Try.ntmps6
    go_upto_region 1 with fail
    have hbm := below_new1 w (.cells #[.slice pa1 n1 c1, .slice pa2 n2 c2, .slice pa3 n3 c3, .slice pa4 n4 c4] 26)
    have zm : (w.alloc (.cells #[.slice pa1 n1 c1, .slice pa2 n2 c2, .slice pa3 n3 c3, .slice pa4 n4 c4] 26)).heap.size = w.heap.size + 1 := by simp
    have HB := Lib.hid hbm
    have km := Lib.hid (Lok.new w 26 #[.slice pa1 n1 c1, .slice pa2 n2 c2, .slice pa3 n3 c3, .slice pa4 n4 c4])
    clear hbm
    generalize w.alloc (.cells #[.slice pa1 n1 c1, .slice pa2 n2 c2, .slice pa3 n3 c3, .slice pa4 n4 c4] 26) = Vm at *
    clear zm
    have m0 := km.out.cell (i := 0) rfl
    have m1 := km.out.cell (i := 1) rfl
    have m2 := km.out.cell (i := 2) rfl
    have m3 := km.out.cell (i := 3) rfl
    go_wp2_with fail
    clear m0 m1 m2 m3
    (((with_reducible refine (FW.out _).mono ?_); rintro e w1 ⟨rfl, hb1⟩); replace HB := Lib.hid (HB.out.trans (hb1.mono HB.out.size)); replace km := Lib.hid (km.out.keep hb1); clear hb1)
    clear FW
    have m0 := km.out.cell (i := 0) rfl
    have m1 := km.out.cell (i := 1) rfl
    have m2 := km.out.cell (i := 2) rfl
    have m3 := km.out.cell (i := 3) rfl
    go_wp2_with fail
    clear m0 m1 m2 m3
    have hw1 := HB.out.size
    ((with_reducible refine (OW.out _ HB.out).mono ?_); rintro e w2 ⟨⟨v1, v2, v3, v4, rfl, O1, O2, O3, O4⟩, hb2⟩)
    have hm1 : w.heap.size < w1.heap.size := km.out.lt
    replace km := Lib.hid (km.out.keep hb2)
    replace HB := Lib.hid (HB.out.trans (hb2.mono HB.out.size))
    clear OW hb2
    obtain ⟨as1, cs1, rfl⟩ := ownR_slc O1
    obtain ⟨as2, cs2, rfl⟩ := ownR_slc O2
    obtain ⟨as3, cs3, rfl⟩ := ownR_slc O3
    obtain ⟨as4, cs4, rfl⟩ := ownR_slc O4
    rw [← swF_0 FC] at O4
    replace O1 := Lib.hid O1
    replace O2 := Lib.hid O2
    replace O3 := Lib.hid O3
    replace O4 := Lib.hid O4
    go_upto_region 4 with fail
    have hbn := below_new1 w2 (.cells #[.slice as1 n1 cs1, .slice as2 n2 cs2, .slice as3 n3 cs3, .slice as4 n4 cs4] 26)
    have kn := Lib.hid (Lok.new w2 26 #[.slice as1 n1 cs1, .slice as2 n2 cs2, .slice as3 n3 cs3, .slice as4 n4 cs4])
    replace km := Lib.hid (km.out.keep hbn)
    replace O1 := Lib.hid (ownK_keep O1.out hbn)
    replace O2 := Lib.hid (ownK_keep O2.out hbn)
    replace O3 := Lib.hid (ownK_keep O3.out hbn)
    replace O4 := Lib.hid (ownK_keep O4.out hbn)
    replace HB := Lib.hid (HB.out.trans (hbn.mono HB.out.size))
    clear hbn
    have hwg : w.heap.size ≤ w1.heap.size := hw1
    have kml := km.out.lt
    generalize w2.alloc (.cells #[.slice as1 n1 cs1, .slice as2 n2 cs2, .slice as3 n3 cs3, .slice as4 n4 cs4] 26) = V2 at *
    generalize hgn : w2.heap.size = gn at *
    replace hgn := Lib.hid hgn
    generalize hB1 : w1.heap.size = B1 at *
    replace hB1 := Lib.hid hB1
    have OM : Hid (OwM V2 B1 (.slice as1 n1 cs1) (.slice as2 n2 cs2) (.slice as3 n3 cs3) (.slice as4 n4 cs4) n1 n2 n3 n4 FV FT FN (swF FC 0)) := Lib.hid ⟨O1.out, O2.out, O3.out, O4.out⟩
    clear O1 O2 O3 O4
    go_wp2_with fail
    go_loopw [4] (fun x wr => ∃ k : Nat, x = .int .i64 k ∧ k ≤ n4 ∧ OwM wr B1 (.slice as1 n1 cs1) (.slice as2 n2 cs2) (.slice as3 n3 cs3) (.slice as4 n4 cs4) n1 n2 n3 n4 FV FT FN (swF FC k) ∧ Lok wr gn 26 #[.slice as1 n1 cs1, .slice as2 n2 cs2, .slice as3 n3 cs3, .slice as4 n4 cs4] ∧ Lok wr w.heap.size 26 #[.slice pa1 n1 c1, .slice pa2 n2 c2, .slice pa3 n3 c3, .slice pa4 n4 c4] ∧ Below w.heap.size w wr) (fun x _ => n4 - (intOf x).toNat)
    case atStart => exact ⟨0, rfl, Nat.zero_le _, OM.out, kn.out, km.out, HB.out⟩
    case round =>
      clear OM kn km HB kml
      obtain ⟨k, rfl, hk, hO, hn, hm, hB⟩ := hrel
      have OM := Lib.hid hO
      have kn := Lib.hid hn
      have km := Lib.hid hm
      have HB := Lib.hid hB
      clear hO hn hm hB
      have n3c := kn.out.cell (i := 3) rfl
      by_cases hlt : k < n4
      · obtain ⟨a', c', e', h', _, _, _⟩ := rowK_of_own2 OM.out.2.2.2
        injection e' with e1 _ e3
        subst e1 e3
        obtain ⟨g4, rfl⟩ : ∃ g, as4 = some ⟨g, 0, none⟩ := by
          rcases h' with ⟨_, h0, _⟩ | h'
          · omega
          · exact h'
        clear h'
        have hng : gn ≠ g4 := fun e => ownR_lok OM.out.2.2.2 kn.out (by decide) (by rw [e]; rfl)
        have hmg : w.heap.size ≠ g4 := fun e => ownR_lok OM.out.2.2.2 km.out (by decide) (by rw [e]; rfl)
        have hg4 := (World.ownsRow.lt OM.out.2.2.2 g4 rfl).1
        have hwg4 : w.heap.size ≤ g4 := by omega
        have x0 : wr.cell? ⟨g4, k * 9, none⟩ = some (.int .i64 (FC k 0)) := by
          have z := own_cell OM.out.2.2.2 (valsK_get (swF FC k) hlt (show 0 < 9 by omega))
          rwa [swF_at FC (Nat.le_refl k)] at z
        have x1 : wr.cell? ⟨g4, k * 9 + 1, none⟩ = some (.int .i64 (FC k 1)) := by
          have z := own_cell OM.out.2.2.2 (valsK_get (swF FC k) hlt (show 1 < 9 by omega))
          rwa [swF_at FC (Nat.le_refl k)] at z
        have x2 : wr.cell? ⟨g4, k * 9 + 2, none⟩ = some (.int .i64 (FC k 2)) := by
          have z := own_cell OM.out.2.2.2 (valsK_get (swF FC k) hlt (show 2 < 9 by omega))
          rwa [swF_at FC (Nat.le_refl k)] at z
        have x3 : wr.cell? ⟨g4, k * 9 + 3, none⟩ = some (.int .i64 (FC k 3)) := by
          have z := own_cell OM.out.2.2.2 (valsK_get (swF FC k) hlt (show 3 < 9 by omega))
          rwa [swF_at FC (Nat.le_refl k)] at z
        have x4 : wr.cell? ⟨g4, k * 9 + 4, none⟩ = some (.int .i64 (FC k 4)) := by
          have z := own_cell OM.out.2.2.2 (valsK_get (swF FC k) hlt (show 4 < 9 by omega))
          rwa [swF_at FC (Nat.le_refl k)] at z
        have x5 : wr.cell? ⟨g4, k * 9 + 5, none⟩ = some (.int .i64 (FC k 5)) := by
          have z := own_cell OM.out.2.2.2 (valsK_get (swF FC k) hlt (show 5 < 9 by omega))
          rwa [swF_at FC (Nat.le_refl k)] at z
        have x6 : wr.cell? ⟨g4, k * 9 + 6, none⟩ = some (.int .i64 (FC k 6)) := by
          have z := own_cell OM.out.2.2.2 (valsK_get (swF FC k) hlt (show 6 < 9 by omega))
          rwa [swF_at FC (Nat.le_refl k)] at z
        have x7 : wr.cell? ⟨g4, k * 9 + 7, none⟩ = some (.int .i64 (FC k 7)) := by
          have z := own_cell OM.out.2.2.2 (valsK_get (swF FC k) hlt (show 7 < 9 by omega))
          rwa [swF_at FC (Nat.le_refl k)] at z
        have x8 : wr.cell? ⟨g4, k * 9 + 8, none⟩ = some (.int .i64 (FC k 8)) := by
          have z := own_cell OM.out.2.2.2 (valsK_get (swF FC k) hlt (show 8 < 9 by omega))
          rwa [swF_at FC (Nat.le_refl k)] at z
        have k0 : (0 : Int) ≤ (k : Int) := by omega
        have k1 : (k : Int) < (n4 : Int) := by omega
        have k2 : ((k : Int)).toNat = k := by omega
        go_upto_region 8 with fail
        have hbt := below_new1 wr (.cells #[.int .i64 (FC k 0), .int .i64 (FC k 1), .int .i64 (FC k 2), .int .i64 (FC k 3), .int .i64 (FC k 4), .int .i64 (FC k 5), .int .i64 (FC k 6), .int .i64 (FC k 7), .int .i64 (FC k 8)] 51)
        have kt := Lib.hid (Lok.new wr 51 #[.int .i64 (FC k 0), .int .i64 (FC k 1), .int .i64 (FC k 2), .int .i64 (FC k 3), .int .i64 (FC k 4), .int .i64 (FC k 5), .int .i64 (FC k 6), .int .i64 (FC k 7), .int .i64 (FC k 8)])
        replace OM : Hid (OwM (wr.alloc (.cells #[.int .i64 (FC k 0), .int .i64 (FC k 1), .int .i64 (FC k 2), .int .i64 (FC k 3), .int .i64 (FC k 4), .int .i64 (FC k 5), .int .i64 (FC k 6), .int .i64 (FC k 7), .int .i64 (FC k 8)] 51)) B1 (.slice as1 n1 cs1) (.slice as2 n2 cs2) (.slice as3 n3 cs3) (.slice (some ⟨g4, 0, none⟩) n4 cs4) n1 n2 n3 n4 FV FT FN (swF FC k)) := Lib.hid ⟨ownK_keep OM.out.1 hbt, ownK_keep OM.out.2.1 hbt, ownK_keep OM.out.2.2.1 hbt, ownK_keep OM.out.2.2.2 hbt⟩
        replace kn := Lib.hid (kn.out.keep hbt)
        replace km := Lib.hid (km.out.keep hbt)
        replace HB := Lib.hid (HB.out.trans (hbt.mono HB.out.size))
        replace x0 := keepc hbt x0
        replace x1 := keepc hbt x1
        replace x2 := keepc hbt x2
        replace x3 := keepc hbt x3
        replace x4 := keepc hbt x4
        replace x5 := keepc hbt x5
        replace x6 := keepc hbt x6
        replace x7 := keepc hbt x7
        replace x8 := keepc hbt x8
        clear hbt n3c
        generalize wr.alloc (.cells #[.int .i64 (FC k 0), .int .i64 (FC k 1), .int .i64 (FC k 2), .int .i64 (FC k 3), .int .i64 (FC k 4), .int .i64 (FC k 5), .int .i64 (FC k 6), .int .i64 (FC k 7), .int .i64 (FC k 8)] 51) = V5 at *
        have n3c := kn.out.cell (i := 3) rfl
        have t0 := kt.out.cell (i := 0) rfl
        have f0 := own_frozen OM.out.2.2.2 (k * 9)
        have t1 := kt.out.cell (i := 1) rfl
        have f1 := own_frozen OM.out.2.2.2 (k * 9 + 1)
        have t2 := kt.out.cell (i := 2) rfl
        have f2 := own_frozen OM.out.2.2.2 (k * 9 + 2)
        have t3 := kt.out.cell (i := 3) rfl
        have f3 := own_frozen OM.out.2.2.2 (k * 9 + 3)
        have t4 := kt.out.cell (i := 4) rfl
        have f4 := own_frozen OM.out.2.2.2 (k * 9 + 4)
        have t5 := kt.out.cell (i := 5) rfl
        have f5 := own_frozen OM.out.2.2.2 (k * 9 + 5)
        have t6 := kt.out.cell (i := 6) rfl
        have f6 := own_frozen OM.out.2.2.2 (k * 9 + 6)
        have t7 := kt.out.cell (i := 7) rfl
        have f7 := own_frozen OM.out.2.2.2 (k * 9 + 7)
        have t8 := kt.out.cell (i := 8) rfl
        have f8 := own_frozen OM.out.2.2.2 (k * 9 + 8)
        have O4 := Lib.hid (own_set (q := k * 9 + 8) (own_set (q := k * 9 + 7) (own_set (q := k * 9 + 6) (own_set (q := k * 9 + 5) (own_set (q := k * 9 + 4) (own_set (q := k * 9 + 3) (own_set (q := k * 9 + 2) (own_set (q := k * 9 + 1) (own_set (q := k * 9) OM.out.2.2.2 (.int .i64 (FC k 3))) (.int .i64 (FC k 4))) (.int .i64 (FC k 5))) (.int .i64 (FC k 0))) (.int .i64 (FC k 1))) (.int .i64 (FC k 2))) (.int .i64 (FC k 6))) (.int .i64 (FC k 7))) (.int .i64 (FC k 8)))
        have O4b : Hid ((((((((((V5.setCell ⟨g4, k * 9, none⟩ (.int .i64 (FC k 3))).setCell ⟨g4, k * 9 + 1, none⟩ (.int .i64 (FC k 4))).setCell ⟨g4, k * 9 + 2, none⟩ (.int .i64 (FC k 5))).setCell ⟨g4, k * 9 + 3, none⟩ (.int .i64 (FC k 0))).setCell ⟨g4, k * 9 + 4, none⟩ (.int .i64 (FC k 1))).setCell ⟨g4, k * 9 + 5, none⟩ (.int .i64 (FC k 2))).setCell ⟨g4, k * 9 + 6, none⟩ (.int .i64 (FC k 6))).setCell ⟨g4, k * 9 + 7, none⟩ (.int .i64 (FC k 7))).setCell ⟨g4, k * 9 + 8, none⟩ (.int .i64 (FC k 8))).ownsRow B1 51 9 (.slice (some ⟨g4, 0, none⟩) n4 cs4) n4 (valsK n4 9 (swF FC (k + 1)))) := Lib.hid (by
          have z := set9_turn FC hlt
          unfold set9 at z
          rw [← z]
          exact O4.out)
        have r0_0 := OM.out.1
        have o0_0 := OM.out.2.2.2
        have r0_1 := row_apart (q := k * 9) (x := .int .i64 (FC k 3)) r0_0 o0_0 (by decide)
        have o0_1 := own_set (q := k * 9) o0_0 (.int .i64 (FC k 3))
        have r0_2 := row_apart (q := k * 9 + 1) (x := .int .i64 (FC k 4)) r0_1 o0_1 (by decide)
        have o0_2 := own_set (q := k * 9 + 1) o0_1 (.int .i64 (FC k 4))
        have r0_3 := row_apart (q := k * 9 + 2) (x := .int .i64 (FC k 5)) r0_2 o0_2 (by decide)
        have o0_3 := own_set (q := k * 9 + 2) o0_2 (.int .i64 (FC k 5))
        have r0_4 := row_apart (q := k * 9 + 3) (x := .int .i64 (FC k 0)) r0_3 o0_3 (by decide)
        have o0_4 := own_set (q := k * 9 + 3) o0_3 (.int .i64 (FC k 0))
        have r0_5 := row_apart (q := k * 9 + 4) (x := .int .i64 (FC k 1)) r0_4 o0_4 (by decide)
        have o0_5 := own_set (q := k * 9 + 4) o0_4 (.int .i64 (FC k 1))
        have r0_6 := row_apart (q := k * 9 + 5) (x := .int .i64 (FC k 2)) r0_5 o0_5 (by decide)
        have o0_6 := own_set (q := k * 9 + 5) o0_5 (.int .i64 (FC k 2))
        have r0_7 := row_apart (q := k * 9 + 6) (x := .int .i64 (FC k 6)) r0_6 o0_6 (by decide)
        have o0_7 := own_set (q := k * 9 + 6) o0_6 (.int .i64 (FC k 6))
        have r0_8 := row_apart (q := k * 9 + 7) (x := .int .i64 (FC k 7)) r0_7 o0_7 (by decide)
        have o0_8 := own_set (q := k * 9 + 7) o0_7 (.int .i64 (FC k 7))
        have r0_9 := row_apart (q := k * 9 + 8) (x := .int .i64 (FC k 8)) r0_8 o0_8 (by decide)
        have o0_9 := own_set (q := k * 9 + 8) o0_8 (.int .i64 (FC k 8))
        have R0 := Lib.hid r0_9
        clear r0_9 o0_9 r0_8 o0_8 r0_7 o0_7 r0_6 o0_6 r0_5 o0_5 r0_4 o0_4 r0_3 o0_3 r0_2 o0_2 r0_1 o0_1 r0_0 o0_0
        have r1_0 := OM.out.2.1
        have o1_0 := OM.out.2.2.2
        have r1_1 := row_apart (q := k * 9) (x := .int .i64 (FC k 3)) r1_0 o1_0 (by decide)
        have o1_1 := own_set (q := k * 9) o1_0 (.int .i64 (FC k 3))
        have r1_2 := row_apart (q := k * 9 + 1) (x := .int .i64 (FC k 4)) r1_1 o1_1 (by decide)
        have o1_2 := own_set (q := k * 9 + 1) o1_1 (.int .i64 (FC k 4))
        have r1_3 := row_apart (q := k * 9 + 2) (x := .int .i64 (FC k 5)) r1_2 o1_2 (by decide)
        have o1_3 := own_set (q := k * 9 + 2) o1_2 (.int .i64 (FC k 5))
        have r1_4 := row_apart (q := k * 9 + 3) (x := .int .i64 (FC k 0)) r1_3 o1_3 (by decide)
        have o1_4 := own_set (q := k * 9 + 3) o1_3 (.int .i64 (FC k 0))
        have r1_5 := row_apart (q := k * 9 + 4) (x := .int .i64 (FC k 1)) r1_4 o1_4 (by decide)
        have o1_5 := own_set (q := k * 9 + 4) o1_4 (.int .i64 (FC k 1))
        have r1_6 := row_apart (q := k * 9 + 5) (x := .int .i64 (FC k 2)) r1_5 o1_5 (by decide)
        have o1_6 := own_set (q := k * 9 + 5) o1_5 (.int .i64 (FC k 2))
        have r1_7 := row_apart (q := k * 9 + 6) (x := .int .i64 (FC k 6)) r1_6 o1_6 (by decide)
        have o1_7 := own_set (q := k * 9 + 6) o1_6 (.int .i64 (FC k 6))
        have r1_8 := row_apart (q := k * 9 + 7) (x := .int .i64 (FC k 7)) r1_7 o1_7 (by decide)
        have o1_8 := own_set (q := k * 9 + 7) o1_7 (.int .i64 (FC k 7))
        have r1_9 := row_apart (q := k * 9 + 8) (x := .int .i64 (FC k 8)) r1_8 o1_8 (by decide)
        have o1_9 := own_set (q := k * 9 + 8) o1_8 (.int .i64 (FC k 8))
        have R1 := Lib.hid r1_9
        clear r1_9 o1_9 r1_8 o1_8 r1_7 o1_7 r1_6 o1_6 r1_5 o1_5 r1_4 o1_4 r1_3 o1_3 r1_2 o1_2 r1_1 o1_1 r1_0 o1_0
        have r2_0 := OM.out.2.2.1
        have o2_0 := OM.out.2.2.2
        have r2_1 := row_apart (q := k * 9) (x := .int .i64 (FC k 3)) r2_0 o2_0 (by decide)
        have o2_1 := own_set (q := k * 9) o2_0 (.int .i64 (FC k 3))
        have r2_2 := row_apart (q := k * 9 + 1) (x := .int .i64 (FC k 4)) r2_1 o2_1 (by decide)
        have o2_2 := own_set (q := k * 9 + 1) o2_1 (.int .i64 (FC k 4))
        have r2_3 := row_apart (q := k * 9 + 2) (x := .int .i64 (FC k 5)) r2_2 o2_2 (by decide)
        have o2_3 := own_set (q := k * 9 + 2) o2_2 (.int .i64 (FC k 5))
        have r2_4 := row_apart (q := k * 9 + 3) (x := .int .i64 (FC k 0)) r2_3 o2_3 (by decide)
        have o2_4 := own_set (q := k * 9 + 3) o2_3 (.int .i64 (FC k 0))
        have r2_5 := row_apart (q := k * 9 + 4) (x := .int .i64 (FC k 1)) r2_4 o2_4 (by decide)
        have o2_5 := own_set (q := k * 9 + 4) o2_4 (.int .i64 (FC k 1))
        have r2_6 := row_apart (q := k * 9 + 5) (x := .int .i64 (FC k 2)) r2_5 o2_5 (by decide)
        have o2_6 := own_set (q := k * 9 + 5) o2_5 (.int .i64 (FC k 2))
        have r2_7 := row_apart (q := k * 9 + 6) (x := .int .i64 (FC k 6)) r2_6 o2_6 (by decide)
        have o2_7 := own_set (q := k * 9 + 6) o2_6 (.int .i64 (FC k 6))
        have r2_8 := row_apart (q := k * 9 + 7) (x := .int .i64 (FC k 7)) r2_7 o2_7 (by decide)
        have o2_8 := own_set (q := k * 9 + 7) o2_7 (.int .i64 (FC k 7))
        have r2_9 := row_apart (q := k * 9 + 8) (x := .int .i64 (FC k 8)) r2_8 o2_8 (by decide)
        have o2_9 := own_set (q := k * 9 + 8) o2_8 (.int .i64 (FC k 8))
        have R2 := Lib.hid r2_9
        clear r2_9 o2_9 r2_8 o2_8 r2_7 o2_7 r2_6 o2_6 r2_5 o2_5 r2_4 o2_4 r2_3 o2_3 r2_2 o2_2 r2_1 o2_1 r2_0 o2_0
        have kn9 := Lib.hid (Lok.far (g' := g4) (i := k * 9 + 8) (v := .int .i64 (FC k 8)) (Lok.far (g' := g4) (i := k * 9 + 7) (v := .int .i64 (FC k 7)) (Lok.far (g' := g4) (i := k * 9 + 6) (v := .int .i64 (FC k 6)) (Lok.far (g' := g4) (i := k * 9 + 5) (v := .int .i64 (FC k 2)) (Lok.far (g' := g4) (i := k * 9 + 4) (v := .int .i64 (FC k 1)) (Lok.far (g' := g4) (i := k * 9 + 3) (v := .int .i64 (FC k 0)) (Lok.far (g' := g4) (i := k * 9 + 2) (v := .int .i64 (FC k 5)) (Lok.far (g' := g4) (i := k * 9 + 1) (v := .int .i64 (FC k 4)) (Lok.far (g' := g4) (i := k * 9) (v := .int .i64 (FC k 3)) kn.out hng) hng) hng) hng) hng) hng) hng) hng) hng)
        have km9 := Lib.hid (Lok.far (g' := g4) (i := k * 9 + 8) (v := .int .i64 (FC k 8)) (Lok.far (g' := g4) (i := k * 9 + 7) (v := .int .i64 (FC k 7)) (Lok.far (g' := g4) (i := k * 9 + 6) (v := .int .i64 (FC k 6)) (Lok.far (g' := g4) (i := k * 9 + 5) (v := .int .i64 (FC k 2)) (Lok.far (g' := g4) (i := k * 9 + 4) (v := .int .i64 (FC k 1)) (Lok.far (g' := g4) (i := k * 9 + 3) (v := .int .i64 (FC k 0)) (Lok.far (g' := g4) (i := k * 9 + 2) (v := .int .i64 (FC k 5)) (Lok.far (g' := g4) (i := k * 9 + 1) (v := .int .i64 (FC k 4)) (Lok.far (g' := g4) (i := k * 9) (v := .int .i64 (FC k 3)) km.out hmg) hmg) hmg) hmg) hmg) hmg) hmg) hmg) hmg)
        have HB9 := Lib.hid (Below.setCell (Below.setCell (Below.setCell (Below.setCell (Below.setCell (Below.setCell (Below.setCell (Below.setCell (Below.setCell HB.out (p := ⟨g4, k * 9, none⟩) hwg4 (.int .i64 (FC k 3))) (p := ⟨g4, k * 9 + 1, none⟩) hwg4 (.int .i64 (FC k 4))) (p := ⟨g4, k * 9 + 2, none⟩) hwg4 (.int .i64 (FC k 5))) (p := ⟨g4, k * 9 + 3, none⟩) hwg4 (.int .i64 (FC k 0))) (p := ⟨g4, k * 9 + 4, none⟩) hwg4 (.int .i64 (FC k 1))) (p := ⟨g4, k * 9 + 5, none⟩) hwg4 (.int .i64 (FC k 2))) (p := ⟨g4, k * 9 + 6, none⟩) hwg4 (.int .i64 (FC k 6))) (p := ⟨g4, k * 9 + 7, none⟩) hwg4 (.int .i64 (FC k 7))) (p := ⟨g4, k * 9 + 8, none⟩) hwg4 (.int .i64 (FC k 8)))
        clear O4 OM kn km HB kt
        go_wp2_with fail
        go_roundw
        case rel => exact ⟨k + 1, by go_num, hlt, ⟨R0.out, R1.out, R2.out, O4b.out⟩, kn9.out, km9.out, HB9.out⟩
        case measure => simp [intOf]; omega
      · obtain rfl : k = n4 := by omega
        have MN : Hid (∀ W, Below wr.heap.size wr W → MsW W as1 as2 as3 as4 n1 n2 n3 k FV FT FN (swF FC k)) := Lib.hid (fun W h => by
          obtain ⟨b1, d1, e1, _, _, hd1, r1⟩ := rowK_of_own (ownK_keep OM.out.1 h)
          obtain ⟨b2, d2, e2, _, _, hd2, r2⟩ := rowK_of_own (ownK_keep OM.out.2.1 h)
          obtain ⟨b3, d3, e3, _, _, hd3, r3⟩ := rowK_of_own (ownK_keep OM.out.2.2.1 h)
          obtain ⟨b4, d4, e4, _, _, hd4, r4⟩ := rowK_of_own (ownK_keep OM.out.2.2.2 h)
          injection e1 with e1 _ _
          injection e2 with e2 _ _
          injection e3 with e3 _ _
          injection e4 with e4 _ _
          subst e1 e2 e3 e4
          exact ⟨⟨r1, r2, r3, r4⟩, by omega, by omega, by omega, by omega⟩)
        have m0 := km.out.cell (i := 0) rfl
        have m1 := km.out.cell (i := 1) rfl
        have m2 := km.out.cell (i := 2) rfl
        have m3 := km.out.cell (i := 3) rfl
        go_wp2_with fail
        ((with_reducible refine (GR.out _ HB.out).mono ?_); rintro e w5 ⟨⟨v5, Z5, rfl, O5, HZ5⟩, hb5⟩)
        clear m0 m1 m2 m3 n3c GR
        have kn5 := Lib.hid (kn.out.keep hb5)
        have HB5 := Lib.hid (HB.out.trans (hb5.mono HB.out.size))
        have M5 := Lib.hid (MN.out w5 hb5)
        clear hb5 kn km HB MN OM
        obtain ⟨nL, hnL⟩ : ∃ nL, nL = CH.length := ⟨_, rfl⟩
        have HNL := Lib.hid hnL
        obtain ⟨a5, c5, rfl, -, lc5, mc5, -⟩ := rowC_of_own O5
        have l5 : Z5.length = nL := by rw [hnL, ← HZ5, List.length_map]
        rw [l5] at O5 lc5 ⊢
        replace O5 := Lib.hid O5
        have L5 := Lib.hid l5
        have hZ5 := Lib.hid HZ5
        have HLT : Hid (nL ≤ 9223372036854775806) := Lib.hid (by have := hCL; omega)
        clear hnL l5 HZ5 lc5 mc5
        have m0 := kn5.out.cell (i := 0) rfl
        have m1 := kn5.out.cell (i := 1) rfl
        have m2 := kn5.out.cell (i := 2) rfl
        have m3 := kn5.out.cell (i := 3) rfl
        go_wp2_with fail
        ((with_reducible refine (GN.out as1 as2 as3 as4 cs1 cs2 cs3 cs4 _ M5.out).mono ?_); rintro e w6 ⟨⟨v6, Z6, rfl, O6, HZ6⟩, hb6⟩)
        clear m0 m1 m2 m3 GN kn5 M5
        have hs56 := hb6.size
        have B56 := Lib.hid hb6
        clear hb6
        obtain ⟨a6, c6, rfl, -, lc6, mc6, -⟩ := rowC_of_own O6
        have l6 : Z6.length = nL := by rw [HNL.out, ← List.length_map (f := ctC), HZ6, List.length_map]
        rw [l6] at O6 lc6 ⊢
        replace O6 := Lib.hid O6
        have L6 := Lib.hid l6
        generalize agE t = et at *
        have d1 : (et == et) = true := by simp
        have d2 : (et != et) = false := by simp
        have d3 : ((nL : Int) == (nL : Int)) = true := by simp
        have d4 : ((nL : Int) != (nL : Int)) = false := by simp
        clear lc6 mc6
        have HZ6' : Hid (Z6.map ctC = CH.take 0 ++ (CH.drop 0).map ChF.turnC) := Lib.hid (by rw [HZ6]; rfl)
        clear HZ6 l6
        go_wp2_with fail
        clear d1 d2 d3 d4
        have hnl := HLT.out
        go_loopw [10] (fun x wr => ∃ (q : Nat) (Zq : List CtZ), x = .int .i64 q ∧ q ≤ nL ∧ Zq.length = nL ∧ OwnC wr w5.heap.size (.slice a6 nL c6) Zq ∧ Zq.map ctC = CH.take q ++ (CH.drop q).map ChF.turnC ∧ Below w5.heap.size w5 wr) (fun x _ => nL - (intOf x).toNat)
        case atStart => exact ⟨0, Z6, rfl, Nat.zero_le _, L6.out, O6.out, HZ6'.out, B56.out⟩
        case round =>
          clear O6 HZ6' B56 L6
          obtain ⟨q, Zq, rfl, hq, hl, hO, hZ, hB⟩ := hrel
          have OQ := Lib.hid hO
          have ZQ := Lib.hid hZ
          have BQ := Lib.hid hB
          have LQ := Lib.hid hl
          clear hO hZ hB
          by_cases hqn : q < nL
          · have hqz : q < Zq.length := by omega
            have hqc : q < CH.length := by have := HNL.out; omega
            have OQ2 : Hid (OwnC wr w5.heap.size (.slice a6 Zq.length c6) Zq) := Lib.hid (by rw [LQ.out]; exact OQ.out)
            obtain ⟨g6, rfl⟩ : ∃ g, a6 = some ⟨g, 0, none⟩ := by
              obtain ⟨_, ⟨hv, h0⟩ | ⟨g, cap, cur, hv, _⟩⟩ := OQ.out.1
              · omega
              · injection hv with e _ _
                exact ⟨g, e⟩
            have hz : Zq[q].2.1 = -(CH[q].2.1) := by
              have z : (Zq.map ctC)[q]? = some (ChF.turnC CH[q]) := by
                rw [ZQ.out, List.getElem?_append_right (by rw [List.length_take]; omega), List.length_take, Nat.min_eq_left (by omega), Nat.sub_self, List.getElem?_map, List.getElem?_drop, Nat.add_zero, List.getElem?_eq_getElem hqc]
                rfl
              rw [List.getElem?_map, List.getElem?_eq_getElem hqz] at z
              have z2 := congrArg (fun c => c.2.1) (Option.some.inj z)
              exact z2
            obtain ⟨_, y0, _⟩ := cellsC_at Zq q hqz
            have x0 := own_cell OQ2.out.1 y0
            have f0 := own_frozen OQ2.out.1 (q * 3 + 1)
            have hg6 := (World.ownsRow.lt OQ.out.1 g6 rfl).1
            have sd := SD.out CH[q] (List.getElem_mem hqc)
            rw [hz] at x0
            have HS : Hid (OwnC (wr.setCell ⟨g6, q * 3 + 1, none⟩ (.int .i64 (CH[q].2.1))) w5.heap.size (.slice (some ⟨g6, 0, none⟩) nL c6) (Zq.set q (Zq[q].1, CH[q].2.1, Zq[q].2.2.1, Zq[q].2.2.2))) := Lib.hid (by
              have z := ownC_set OQ2.out hqz (CH[q].2.1)
              rwa [LQ.out] at z)
            have HM : Hid ((Zq.set q (Zq[q].1, CH[q].2.1, Zq[q].2.2.1, Zq[q].2.2.2)).map ctC = CH.take (q + 1) ++ (CH.drop (q + 1)).map ChF.turnC) := Lib.hid (by
              have z1 : (Zq.map ctC)[q]? = some (ctC Zq[q]) := by rw [List.getElem?_map, List.getElem?_eq_getElem hqz]; rfl
              have z2 : (Zq.map ctC)[q]? = some (ChF.turnC CH[q]) := by
                rw [ZQ.out, List.getElem?_append_right (by rw [List.length_take]; omega), List.length_take, Nat.min_eq_left (by omega), Nat.sub_self, List.getElem?_map, List.getElem?_drop, Nat.add_zero, List.getElem?_eq_getElem hqc]
                rfl
              have z3 : ctC Zq[q] = ChF.turnC CH[q] := Option.some.inj (z1.symm.trans z2)
              have z4 : ctC (Zq[q].1, CH[q].2.1, Zq[q].2.2.1, Zq[q].2.2.2) = CH[q] := by
                have e1 : Zq[q].1 = CH[q].1 := congrArg (fun c => c.1) z3
                have e2 : Zq[q].2.2.1 = CH[q].2.2 := congrArg (fun c => c.2.2) z3
                show (Zq[q].1, CH[q].2.1, Zq[q].2.2.1) = CH[q]
                rw [e1, e2]
              rw [List.map_set, z4, ZQ.out, List.drop_eq_getElem_cons hqc, List.map_cons, List.set_append_right _ _ (by rw [List.length_take]; omega), List.length_take, Nat.min_eq_left (by omega), Nat.sub_self, List.set_cons_zero, List.take_add_one, List.getElem?_eq_getElem hqc, List.append_assoc]
              rfl)
            have LM : Hid ((Zq.set q (Zq[q].1, CH[q].2.1, Zq[q].2.2.1, Zq[q].2.2.2)).length = nL) := Lib.hid (by rw [List.length_set]; exact LQ.out)
            have BM := Lib.hid (BQ.out.setCell (p := ⟨g6, q * 3 + 1, none⟩) hg6 (.int .i64 (CH[q].2.1)))
            clear OQ OQ2 ZQ BQ y0 hz
            generalize (Zq.set q (Zq[q].1, CH[q].2.1, Zq[q].2.2.1, Zq[q].2.2.2)) = ZN at *
            generalize CH[q].2.1 = s at *
            have hw : IntKind.i64.wrap (-(-s)) = s := by rw [IntKind.wrap_i64]; omega
            have i0 : (0 : Int) ≤ (q : Int) := by omega
            have i1 : (q : Int) < (nL : Int) := by omega
            have i2 : ((q : Int)).toNat = q := by omega
            clear hl
            go_wp2_with fail
            go_roundw
            case rel => exact ⟨q + 1, ZN, by go_num, hqn, LM.out, HS.out, HM.out, BM.out⟩
            case measure => simp [intOf]; omega
          · obtain rfl : q = nL := by omega
            have HF : Hid (Zq.map ctC = CH) := Lib.hid (by rw [ZQ.out, List.take_of_length_le (Nat.le_of_eq HNL.out.symm), List.drop_eq_nil_of_le (Nat.le_of_eq HNL.out.symm)]; simp)
            have O5q := Lib.hid (O5.out.keep BQ.out)
            have HB9 := Lib.hid (HB5.out.trans (BQ.out.mono HB5.out.size))
            go_wp2_with fail
            ((with_reducible refine (charted_any _).mono ?_); rintro e w7 ⟨rfl, hb7⟩)
            have R5 : Hid (RowC w7 a5 q CH) := Lib.hid (by
              obtain ⟨a', c', e', _, _, _, r'⟩ := rowC_of_own (O5q.out.keep hb7)
              injection e' with e1 _ _
              subst e1
              rw [hZ5.out, L5.out] at r'
              exact r')
            have R6 : Hid (RowC w7 a6 q CH) := Lib.hid (by
              obtain ⟨a', c', e', _, _, _, r'⟩ := rowC_of_own (OQ.out.keep hb7)
              injection e' with e1 _ _
              subst e1
              rw [HF.out, LQ.out] at r'
              exact r')
            have SA := Lib.hid (rsame_charts a5 a6 q q c5 c6 CH CH w7 R5.out R6.out HLT.out HLT.out)
            rw [seB_self] at SA
            have HB7 := Lib.hid (HB9.out.trans (hb7.mono HB9.out.size))
            clear hb7 O5q OQ O5
            go_wp2_with fail
            ((with_reducible refine SA.out.mono ?_); rintro e w8 ⟨rfl, hb8⟩)
            have HB8 := Lib.hid (HB7.out.trans (hb8.mono HB7.out.size))
            clear hb8 SA
            go_wp2
            go_ret
            exact ⟨rfl, HB8.out⟩
end Go.Proofs.Ytcnbbanpnoigdaa
