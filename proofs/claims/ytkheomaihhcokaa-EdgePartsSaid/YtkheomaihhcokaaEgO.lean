/-
  The law EdgeParts. (gen/EgO.py)
-/
import Derived.Test.YtkheomaihhcokaaEgS
import Derived.Test.YtkheomaihhcokaaEcV
import Derived.BigQuiet
namespace Go.Proofs.Ytkheomaihhcokaa
open Go.RowKit

/-- One more triangle. -/
def moF (n : Nat) (F : Nat → Nat → Int) (a b c : Int) : Nat → Nat → Int := catK n F (fun _ j => f9 a (-1) (-1) b (-1) (-1) c (-1) (-1) j)
theorem mo_next {n : Nat} {F : Nat → Nat → Int} {a b c : Int} : ∀ i j, i < n → j < n → nxB (moF n F a b c) i j = nxB F i j := fun i j hi hj => by
  unfold nxB moF
  simp only [catK_lo _ _ _ hi, catK_lo _ _ _ hj]
theorem mo_vals (n : Nat) (F : Nat → Nat → Int) (a b c : Int) : valsK (n + 1) 9 (moF n F a b c) = valsK n 9 F ++ [.int .i64 a, .int .i64 (-1), .int .i64 (-1), .int .i64 b, .int .i64 (-1), .int .i64 (-1), .int .i64 c, .int .i64 (-1), .int .i64 (-1)] := by
  rw [valsK_succ]
  congr 1
  · exact valsK_congr fun i hi j _ => catK_lo _ _ _ hi
  · rw [show List.range 9 = [0, 1, 2, 3, 4, 5, 6, 7, 8] from rfl]
    unfold moF
    simp only [List.map_cons, List.map_nil, catK_hi _ _ _ (Nat.le_refl n)]
    rfl
theorem own_cat0 {w : World} {base n k : Nat} {e : TypeId} {v : Value} {F G : Nat → Nat → Int} (h : w.ownsRow base e k v n (valsK n k (catK 0 G F))) : w.ownsRow base e k v n (valsK n k F) := by
  rwa [valsK_congr (G := F) (fun i hi j _ => by rw [catK_hi _ _ _ (Nat.zero_le _), Nat.sub_zero])] at h
/-- The mesh with one more triangle, in its block; its first three rows as they lay in V. -/
def MoK (W V : World) (g : Nat) (v1 v2 v3 : Value) (n4 : Nat) (G : Nat → Nat → Int) : Prop := ∃ v4, Lok W g 26 #[v1, v2, v3, v4] ∧ AbP (g + 1) V W ∧ W.ownsRow V.heap.size 51 9 v4 (n4 + 1) (valsK (n4 + 1) 9 G)
theorem MoK.keep {W W' V : World} {g : Nat} {v1 v2 v3 : Value} {n4 : Nat} {G : Nat → Nat → Int} (h : MoK W V g v1 v2 v3 n4 G) (hb : Below W.heap.size W W') : MoK W' V g v1 v2 v3 n4 G := by
  obtain ⟨v4, h1, h2, h3⟩ := h
  exact ⟨v4, h1.keep hb, h2.keep hb, ownK_keep h3 hb⟩
theorem AbP.keepB {lo n : Nat} {V W W' : World} (h : AbP lo V W) (hb : Below n W W') (hn : V.heap.size ≤ n) : AbP lo V W' := ⟨Nat.le_trans h.1 hb.size, fun k h1 h2 => (hb.block k (Nat.lt_of_lt_of_le h2 hn)).trans (h.2 k h1 h2)⟩
theorem own_above {V W : World} {lo base k n : Nat} {e : TypeId} {v : Value} {xs : List Value} (h : V.ownsRow base e k v n xs) (hl : lo ≤ base) (hA : AbP lo V W) : W.ownsRow base e k v n xs := by
  obtain ⟨h1, h2 | ⟨g, cap, cur, hv, hg, hh, hrest⟩⟩ := h
  · exact ⟨h1, .inl h2⟩
  · have hlt : g < V.heap.size := Lok.lt (t := e) (cs := cur) hh
    exact ⟨h1, .inr ⟨g, cap, cur, hv, hg, (hA.2 g (Nat.le_trans hl hg) hlt).trans hh, hrest⟩⟩
theorem row_above {V W : World} {lo base k n c : Nat} {e : TypeId} {a : Option Addr} {F : Nat → Nat → Int} (h : V.ownsRow base e k (.slice a n c) n (valsK n k F)) (hl : lo ≤ base) (hA : AbP lo V W) : RowK W a n k F := by
  obtain ⟨a', c', e', -, -, -, hR⟩ := rowK_of_own (own_above h hl hA)
  cases e'
  exact hR
theorem infoV3 : (Try.prog.info? 87).map (fun i => (i.zero, i.size, i.bytes)) = some (some (.agg #[.int .i64 0, .int .i64 0, .int .i64 0]), 3, 24) := by kernel_rfl
theorem infoV2 : (Try.prog.info? 90).map (fun i => (i.zero, i.size, i.bytes)) = some (some (.agg #[.int .i64 0, .int .i64 0]), 2, 16) := by kernel_rfl
theorem infoT9 : (Try.prog.info? 51).map (fun i => (i.zero, i.size, i.bytes)) = some (some (.agg #[.int .i64 0, .int .i64 0, .int .i64 0, .int .i64 0, .int .i64 0, .int .i64 0, .int .i64 0, .int .i64 0, .int .i64 0]), 9, 72) := by kernel_rfl
theorem pt_val {F : Nat → Nat → Int} {n i : Nat} (hi : i < n) : ∃ m : Nat, (ptR F n n).getD i 0 = (m : Int) ∧ m ≤ i ∧ (ptR F n n).getD m 0 = (m : Int) := by
  obtain ⟨m, h, hm, _⟩ := pt_least (F := F) hi
  exact ⟨m, h, hm, (pt_own hi h).2⟩
set_option maxRecDepth 100000 in
set_option maxHeartbeats 16000000 in
theorem law_parts (pa1 pa2 pa3 pa4 : Option Addr) (n1 n2 n3 n4 c1 c2 c3 c4 : Nat) (FV FT FN FC : Nat → Nat → Int) (a b c : Int) (w : World) (hm : RowK w pa1 n1 3 FV ∧ RowK w pa2 n2 2 FT ∧ RowK w pa3 n3 3 FN ∧ RowK w pa4 n4 9 FC) (hz : (pa1 = none → n1 = 0 ∧ c1 = 0) ∧ (pa2 = none → n2 = 0 ∧ c2 = 0) ∧ (pa3 = none → n3 = 0 ∧ c3 = 0) ∧ (pa4 = none → n4 = 0 ∧ c4 = 0)) :
    Calls Try.prog 6 #[.agg #[.slice pa1 n1 c1, .slice pa2 n2 c2, .slice pa3 n3 c3, .slice pa4 n4 c4], .int .i64 a, .int .i64 b, .int .i64 c] w fun e w' => e = .returned (.bool true) ∧ Below w.heap.size w w' := by
  have HB := Lib.hid (Below.refl w.heap.size w)
  have FW := Lib.hid (fun W => rfew_any pa1 pa2 pa3 pa4 n1 n2 n3 n4 c1 c2 c3 c4 W)
  have ED := Lib.hid (edged_any edge_ok)
  have HZ := Lib.hid hz
  clear hz
  cases hf : fwB n1 n2 n3 n4 with
  | false =>
    rw [hf] at FW
    go_enter Try.func6, Try.ntmps6
    go_upto_region 1 with fail
    have hbm := below_new1 w (.cells #[.slice pa1 n1 c1, .slice pa2 n2 c2, .slice pa3 n3 c3, .slice pa4 n4 c4] 26)
    have zm : (w.alloc (.cells #[.slice pa1 n1 c1, .slice pa2 n2 c2, .slice pa3 n3 c3, .slice pa4 n4 c4] 26)).heap.size = w.heap.size + 1 := by simp
    have HB := Lib.hid hbm
    have km := Lib.hid (Lok.new w 26 #[.slice pa1 n1 c1, .slice pa2 n2 c2, .slice pa3 n3 c3, .slice pa4 n4 c4])
    clear hbm
    generalize w.alloc (.cells #[.slice pa1 n1 c1, .slice pa2 n2 c2, .slice pa3 n3 c3, .slice pa4 n4 c4] 26) = Vm at *
    clear zm
    have m0 := km.out.cell (i := 0) rfl
    have m1 := km.out.cell (i := 1) rfl
    have m2 := km.out.cell (i := 2) rfl
    have m3 := km.out.cell (i := 3) rfl
    go_wp2_with fail
    clear m0 m1 m2 m3
    (((with_reducible refine (FW.out _).mono ?_); rintro e w1 ⟨rfl, hb1⟩); replace HB := Lib.hid (HB.out.trans (hb1.mono HB.out.size)); replace km := Lib.hid (km.out.keep hb1); clear hb1)
    have m0 := km.out.cell (i := 0) rfl
    have m1 := km.out.cell (i := 1) rfl
    have m2 := km.out.cell (i := 2) rfl
    have m3 := km.out.cell (i := 3) rfl
    go_wp2
    go_ret
    exact ⟨rfl, HB.out⟩
  | true =>
    have q := fw_yes hf
    rw [hf] at FW
    have M := Lib.hid (show MsW w pa1 pa2 pa3 pa4 n1 n2 n3 n4 FV FT FN FC from ⟨hm, by omega, by omega, by omega, by omega⟩)
    clear hf hm
    by_cases h15 : 15 < n4
    · have h1 : (15 : Int) < (n4 : Int) := by omega
      go_enter Try.func6, Try.ntmps6
      go_upto_region 1 with fail
      have hbm := below_new1 w (.cells #[.slice pa1 n1 c1, .slice pa2 n2 c2, .slice pa3 n3 c3, .slice pa4 n4 c4] 26)
      have zm : (w.alloc (.cells #[.slice pa1 n1 c1, .slice pa2 n2 c2, .slice pa3 n3 c3, .slice pa4 n4 c4] 26)).heap.size = w.heap.size + 1 := by simp
      have HB := Lib.hid hbm
      have km := Lib.hid (Lok.new w 26 #[.slice pa1 n1 c1, .slice pa2 n2 c2, .slice pa3 n3 c3, .slice pa4 n4 c4])
      clear hbm
      generalize w.alloc (.cells #[.slice pa1 n1 c1, .slice pa2 n2 c2, .slice pa3 n3 c3, .slice pa4 n4 c4] 26) = Vm at *
      clear zm
      have m0 := km.out.cell (i := 0) rfl
      have m1 := km.out.cell (i := 1) rfl
      have m2 := km.out.cell (i := 2) rfl
      have m3 := km.out.cell (i := 3) rfl
      go_wp2_with fail
      clear m0 m1 m2 m3
      (((with_reducible refine (FW.out _).mono ?_); rintro e w1 ⟨rfl, hb1⟩); replace HB := Lib.hid (HB.out.trans (hb1.mono HB.out.size)); replace km := Lib.hid (km.out.keep hb1); clear hb1)
      have m0 := km.out.cell (i := 0) rfl
      have m1 := km.out.cell (i := 1) rfl
      have m2 := km.out.cell (i := 2) rfl
      have m3 := km.out.cell (i := 3) rfl
      go_wp2
      go_ret
      exact ⟨rfl, HB.out⟩
    · have h1 : ¬ (15 : Int) < (n4 : Int) := by omega
      have PA := Lib.hid (fun W (h : Below w.heap.size w W) => partsE_any pa1 pa2 pa3 pa4 n1 n2 n3 n4 c1 c2 c3 c4 FV FT FN FC W (M.out.keep h))
      cases hr : msB n1 n2 n3 n4 FV FT FN FC with
      | false =>
        rw [hr, show agE false = 1 from rfl, show ptA false FC n4 = [] from rfl] at PA
        clear hr
        go_enter Try.func6, Try.ntmps6
        go_upto_region 1 with fail
        have hbm := below_new1 w (.cells #[.slice pa1 n1 c1, .slice pa2 n2 c2, .slice pa3 n3 c3, .slice pa4 n4 c4] 26)
        have zm : (w.alloc (.cells #[.slice pa1 n1 c1, .slice pa2 n2 c2, .slice pa3 n3 c3, .slice pa4 n4 c4] 26)).heap.size = w.heap.size + 1 := by simp
        have HB := Lib.hid hbm
        have km := Lib.hid (Lok.new w 26 #[.slice pa1 n1 c1, .slice pa2 n2 c2, .slice pa3 n3 c3, .slice pa4 n4 c4])
        clear hbm
        generalize w.alloc (.cells #[.slice pa1 n1 c1, .slice pa2 n2 c2, .slice pa3 n3 c3, .slice pa4 n4 c4] 26) = Vm at *
        clear zm
        have m0 := km.out.cell (i := 0) rfl
        have m1 := km.out.cell (i := 1) rfl
        have m2 := km.out.cell (i := 2) rfl
        have m3 := km.out.cell (i := 3) rfl
        go_wp2_with fail
        clear m0 m1 m2 m3
        (((with_reducible refine (FW.out _).mono ?_); rintro e w1 ⟨rfl, hb1⟩); replace HB := Lib.hid (HB.out.trans (hb1.mono HB.out.size)); replace km := Lib.hid (km.out.keep hb1); clear hb1)
        have m0 := km.out.cell (i := 0) rfl
        have m1 := km.out.cell (i := 1) rfl
        have m2 := km.out.cell (i := 2) rfl
        have m3 := km.out.cell (i := 3) rfl
        go_wp2_with fail
        ((with_reducible refine (PA.out _ HB.out).mono ?_); rintro e w2 ⟨⟨v2, rfl, O2⟩, hb2⟩)
        obtain ⟨a2, d2, rfl, -, -, -, -⟩ := rowI_of_own O2
        clear O2 PA FW m0 m1 m2 m3 km
        replace HB := Lib.hid (HB.out.trans (hb2.mono HB.out.size))
        clear hb2
        simp only [List.length_nil]
        go_wp2_with fail
        (((with_reducible refine (ED.out _).mono ?_); rintro e w3 ⟨rfl, hb3⟩); replace HB := Lib.hid (HB.out.trans (hb3.mono HB.out.size)); clear hb3)
        go_wp2
        go_ret
        exact ⟨rfl, HB.out⟩
      | true =>
        rw [hr, show agE true = 0 from rfl, show ptA true FC n4 = ptR FC n4 n4 from rfl] at PA
        clear hr
        go_enter Try.func6, Try.ntmps6
        go_upto_region 1 with fail
        have hbm := below_new1 w (.cells #[.slice pa1 n1 c1, .slice pa2 n2 c2, .slice pa3 n3 c3, .slice pa4 n4 c4] 26)
        have zm : (w.alloc (.cells #[.slice pa1 n1 c1, .slice pa2 n2 c2, .slice pa3 n3 c3, .slice pa4 n4 c4] 26)).heap.size = w.heap.size + 1 := by simp
        have HB := Lib.hid hbm
        have km := Lib.hid (Lok.new w 26 #[.slice pa1 n1 c1, .slice pa2 n2 c2, .slice pa3 n3 c3, .slice pa4 n4 c4])
        clear hbm
        generalize w.alloc (.cells #[.slice pa1 n1 c1, .slice pa2 n2 c2, .slice pa3 n3 c3, .slice pa4 n4 c4] 26) = Vm at *
        clear zm
        have m0 := km.out.cell (i := 0) rfl
        have m1 := km.out.cell (i := 1) rfl
        have m2 := km.out.cell (i := 2) rfl
        have m3 := km.out.cell (i := 3) rfl
        go_wp2_with fail
        clear m0 m1 m2 m3
        (((with_reducible refine (FW.out _).mono ?_); rintro e w1 ⟨rfl, hb1⟩); replace HB := Lib.hid (HB.out.trans (hb1.mono HB.out.size)); replace km := Lib.hid (km.out.keep hb1); clear hb1)
        have m0 := km.out.cell (i := 0) rfl
        have m1 := km.out.cell (i := 1) rfl
        have m2 := km.out.cell (i := 2) rfl
        have m3 := km.out.cell (i := 3) rfl
        go_wp2_with fail
        ((with_reducible refine (PA.out _ HB.out).mono ?_); rintro e w2 ⟨⟨v2, rfl, O2⟩, hb2⟩)
        obtain ⟨a2, d2, rfl, -, -, -, R2⟩ := rowI_of_own O2
        simp only [ptR_len] at R2 ⊢
        clear O2 PA FW m0 m1 m2 m3
        replace R2 := Lib.hid R2
        replace HB := Lib.hid (HB.out.trans (hb2.mono HB.out.size))
        replace km := Lib.hid (km.out.keep hb2)
        clear hb2
        have HB0 := HB
        have B2 := Lib.hid (Below.refl w2.heap.size w2)
        clear HB
        go_wp2_with fail
        go_loopw [11] (fun x wr => ∃ i : Nat, x = .int .i64 i ∧ i ≤ n4 ∧ Below w2.heap.size w2 wr) (fun x _ => n4 - (intOf x).toNat)
        case atStart => exact ⟨0, rfl, Nat.zero_le _, B2.out⟩
        case round =>
          clear B2
          obtain ⟨i, rfl, hi, hB⟩ := hrel
          have B2 := Lib.hid hB
          clear hB
          by_cases hlt : i < n4
          · obtain ⟨m, hm1, hm2, hm3⟩ := pt_val (F := FC) hlt
            obtain ⟨g2, o2, rfl, hg2, hc2⟩ := (R2.out.keep B2.out).at hlt
            have p1 := hc2 i hlt
            have p2 := hc2 m (by omega)
            rw [hm1] at p1
            rw [hm3] at p2
            clear hc2 hm1 hm3
            have i0 : (0 : Int) ≤ (i : Int) := by omega
            have i1 : (i : Int) < (n4 : Int) := by omega
            have i2 : ((i : Int)).toNat = i := by omega
            have j0 : (0 : Int) ≤ (m : Int) := by omega
            have j1 : (m : Int) < (n4 : Int) := by omega
            have j2 : ((m : Int)).toNat = m := by omega
            have j3 : ¬ (m : Int) < 0 := by omega
            have j4 : ¬ (i : Int) < (m : Int) := by omega
            have j5 : ¬ i < m := by omega
            have j6 : ((m : Int) != (m : Int)) = false := by simp
            go_upto_region 9 with fail
            go_quiet (fail)
            go_wp2
            go_roundw
            case rel => exact ⟨i + 1, by go_num, hlt, below_drewN B2.out _⟩
            case measure => simp [intOf]; omega
          · obtain rfl : n4 = i := by omega
            have HB := Lib.hid (HB0.out.trans (B2.out.mono HB0.out.size))
            replace km := Lib.hid (km.out.keep B2.out)
            replace R2 := Lib.hid (R2.out.keep B2.out)
            have M2 := Lib.hid (M.out.keep HB.out)
            clear HB0 B2 hlt hi M
            go_upto_region 12 with fail
            have BW := Lib.hid ((Below.refl wr.heap.size wr).alloc (Nat.le_refl _) (.cells #[.slice none 0 0, .slice none 0 0, .slice none 0 0, .slice none 0 0] 26))
            have KM := Lib.hid (fun W (h : Below wr.heap.size wr W) => km.out.keep h)
            have RM := Lib.hid (fun W (h : Below wr.heap.size wr W) => R2.out.keep h)
            have MM := Lib.hid (fun W (h : Below wr.heap.size wr W) => M2.out.keep h)
            have HBW := Lib.hid (fun W (h : Below wr.heap.size wr W) => HB.out.trans (h.mono HB.out.size))
            have hbz := below_new1 wr (.cells #[.slice none 0 0, .slice none 0 0, .slice none 0 0, .slice none 0 0] 26)
            have zz : (wr.alloc (.cells #[.slice none 0 0, .slice none 0 0, .slice none 0 0, .slice none 0 0] 26)).heap.size = wr.heap.size + 1 := by simp
            replace HB := Lib.hid (HB.out.trans (hbz.mono HB.out.size))
            have kz := Lib.hid (Lok.new wr 26 #[.slice none 0 0, .slice none 0 0, .slice none 0 0, .slice none 0 0])
            clear hbz
            generalize wr.alloc (.cells #[.slice none 0 0, .slice none 0 0, .slice none 0 0, .slice none 0 0] 26) = Vz at *
            have hsz : wr.heap.size + 1 ≤ Vz.heap.size := by rw [zz]; exact Nat.le_refl _
            clear zz km R2 M2 HB
            generalize wr.heap.size = gz at *
            obtain ⟨iI1, hI1, hy1, hu1, hv1⟩ := info_parts infoV3
            have z0 := kz.out.cell (i := 0) rfl
            have z1 := kz.out.cell (i := 1) rfl
            have z2 := kz.out.cell (i := 2) rfl
            have z3 := kz.out.cell (i := 3) rfl
            have m0 := (KM.out _ BW.out).cell (i := 0) rfl
            have q1 : Hid (0 + n1 ≤ maxLen) := Lib.hid (by unfold maxLen; omega)
            have q2 : Hid ((0 + n1) * 24 ≤ 140737488355328) := Lib.hid (by omega)
            have HR := Lib.hid (MM.out _ BW.out).1.1
            go_wp2_with (at_builtin; refine wpList_append_catk rfl _ _ 22 rfl Vz.heap.size 87 iI1 _ 3 24 Try.underlying22 hI1 hy1 hu1 hv1 rfl (by decide) (.slice none 0 0) 0 (fun _ _ => 0) rfl (World.ownsRow_nil _ _ _ _) pa1 n1 c1 FV rfl (HZ.out.1) HR.out q1.out q2.out (Nat.le_refl _) ?_)
            intro va1 wa1 own1 hba1
            have O1 := Lib.hid (ownR_mono (own_cat0 own1) hsz)
            replace kz := Lib.hid (kz.out.keep hba1)
            replace BW := Lib.hid (BW.out.trans (hba1.mono (by omega)))
            have hsa1 := hba1.size
            obtain ⟨as1, cs1, rfl, -, -, -, -⟩ := rowK_of_own O1.out
            clear own1 hba1 q1 q2 HR z0 z1 z2 z3 m0
            have z0 := kz.out.cell (i := 0) rfl
            have z1 := kz.out.cell (i := 1) rfl
            have z2 := kz.out.cell (i := 2) rfl
            have z3 := kz.out.cell (i := 3) rfl
            have f0 := kz.out.frozen 0
            go_upto_region 13 with fail
            replace O1 := Lib.hid (ownsRow_setCell_below O1.out (a := ⟨gz, 0, none⟩) (by show gz < _; omega) (.slice as1 n1 cs1))
            replace kz : Hid (Lok (wa1.setCell ⟨gz, 0, none⟩ (.slice as1 n1 cs1)) gz 26 #[.slice as1 n1 cs1, .slice none 0 0, .slice none 0 0, .slice none 0 0]) := Lib.hid (kz.out.set (i := 0) (v := .slice as1 n1 cs1))
            replace BW := Lib.hid (BW.out.setCell (p := ⟨gz, 0, none⟩) (Nat.le_refl _) (.slice as1 n1 cs1))
            have hz1 : wa1.heap.size = (wa1.setCell ⟨gz, 0, none⟩ (.slice as1 n1 cs1)).heap.size := by simp
            replace hsz : gz + 1 ≤ (wa1.setCell ⟨gz, 0, none⟩ (.slice as1 n1 cs1)).heap.size := by rw [← hz1]; omega
            clear z0 z1 z2 z3 f0 hsa1
            generalize wa1.setCell ⟨gz, 0, none⟩ (.slice as1 n1 cs1) = W1 at *
            clear hz1
            obtain ⟨iI2, hI2, hy2, hu2, hv2⟩ := info_parts infoV2
            have z0 := kz.out.cell (i := 0) rfl
            have z1 := kz.out.cell (i := 1) rfl
            have z2 := kz.out.cell (i := 2) rfl
            have z3 := kz.out.cell (i := 3) rfl
            have m1 := (KM.out _ BW.out).cell (i := 1) rfl
            have q1 : Hid (0 + n2 ≤ maxLen) := Lib.hid (by unfold maxLen; omega)
            have q2 : Hid ((0 + n2) * 16 ≤ 140737488355328) := Lib.hid (by omega)
            have HR := Lib.hid (MM.out _ BW.out).1.2.1
            go_wp2_with (at_builtin; refine wpList_append_catk rfl _ _ 23 rfl W1.heap.size 90 iI2 _ 2 16 Try.underlying23 hI2 hy2 hu2 hv2 rfl (by decide) (.slice none 0 0) 0 (fun _ _ => 0) rfl (World.ownsRow_nil _ _ _ _) pa2 n2 c2 FT rfl (HZ.out.2.1) HR.out q1.out q2.out (Nat.le_refl _) ?_)
            intro va2 wa2 own2 hba2
            have O2 := Lib.hid (ownR_mono (own_cat0 own2) hsz)
            replace O1 := Lib.hid (ownK_keep O1.out hba2)
            replace kz := Lib.hid (kz.out.keep hba2)
            replace BW := Lib.hid (BW.out.trans (hba2.mono (by omega)))
            have hsa2 := hba2.size
            obtain ⟨as2, cs2, rfl, -, -, -, -⟩ := rowK_of_own O2.out
            clear own2 hba2 q1 q2 HR z0 z1 z2 z3 m1
            have z0 := kz.out.cell (i := 0) rfl
            have z1 := kz.out.cell (i := 1) rfl
            have z2 := kz.out.cell (i := 2) rfl
            have z3 := kz.out.cell (i := 3) rfl
            have f1 := kz.out.frozen 1
            go_upto_region 14 with fail
            replace O1 := Lib.hid (ownsRow_setCell_below O1.out (a := ⟨gz, 1, none⟩) (by show gz < _; omega) (.slice as2 n2 cs2))
            replace O2 := Lib.hid (ownsRow_setCell_below O2.out (a := ⟨gz, 1, none⟩) (by show gz < _; omega) (.slice as2 n2 cs2))
            replace kz : Hid (Lok (wa2.setCell ⟨gz, 1, none⟩ (.slice as2 n2 cs2)) gz 26 #[.slice as1 n1 cs1, .slice as2 n2 cs2, .slice none 0 0, .slice none 0 0]) := Lib.hid (kz.out.set (i := 1) (v := .slice as2 n2 cs2))
            replace BW := Lib.hid (BW.out.setCell (p := ⟨gz, 1, none⟩) (Nat.le_refl _) (.slice as2 n2 cs2))
            have hz2 : wa2.heap.size = (wa2.setCell ⟨gz, 1, none⟩ (.slice as2 n2 cs2)).heap.size := by simp
            replace hsz : gz + 1 ≤ (wa2.setCell ⟨gz, 1, none⟩ (.slice as2 n2 cs2)).heap.size := by rw [← hz2]; omega
            clear z0 z1 z2 z3 f1 hsa2
            generalize wa2.setCell ⟨gz, 1, none⟩ (.slice as2 n2 cs2) = W2 at *
            clear hz2
            obtain ⟨iI3, hI3, hy3, hu3, hv3⟩ := info_parts infoV3
            have z0 := kz.out.cell (i := 0) rfl
            have z1 := kz.out.cell (i := 1) rfl
            have z2 := kz.out.cell (i := 2) rfl
            have z3 := kz.out.cell (i := 3) rfl
            have m2 := (KM.out _ BW.out).cell (i := 2) rfl
            have q1 : Hid (0 + n3 ≤ maxLen) := Lib.hid (by unfold maxLen; omega)
            have q2 : Hid ((0 + n3) * 24 ≤ 140737488355328) := Lib.hid (by omega)
            have HR := Lib.hid (MM.out _ BW.out).1.2.2.1
            go_wp2_with (at_builtin; refine wpList_append_catk rfl _ _ 22 rfl W2.heap.size 87 iI3 _ 3 24 Try.underlying22 hI3 hy3 hu3 hv3 rfl (by decide) (.slice none 0 0) 0 (fun _ _ => 0) rfl (World.ownsRow_nil _ _ _ _) pa3 n3 c3 FN rfl (HZ.out.2.2.1) HR.out q1.out q2.out (Nat.le_refl _) ?_)
            intro va3 wa3 own3 hba3
            have O3 := Lib.hid (ownR_mono (own_cat0 own3) hsz)
            replace O1 := Lib.hid (ownK_keep O1.out hba3)
            replace O2 := Lib.hid (ownK_keep O2.out hba3)
            replace kz := Lib.hid (kz.out.keep hba3)
            replace BW := Lib.hid (BW.out.trans (hba3.mono (by omega)))
            have hsa3 := hba3.size
            obtain ⟨as3, cs3, rfl, -, -, -, -⟩ := rowK_of_own O3.out
            clear own3 hba3 q1 q2 HR z0 z1 z2 z3 m2
            have z0 := kz.out.cell (i := 0) rfl
            have z1 := kz.out.cell (i := 1) rfl
            have z2 := kz.out.cell (i := 2) rfl
            have z3 := kz.out.cell (i := 3) rfl
            have f2 := kz.out.frozen 2
            go_upto_region 15 with fail
            replace O1 := Lib.hid (ownsRow_setCell_below O1.out (a := ⟨gz, 2, none⟩) (by show gz < _; omega) (.slice as3 n3 cs3))
            replace O2 := Lib.hid (ownsRow_setCell_below O2.out (a := ⟨gz, 2, none⟩) (by show gz < _; omega) (.slice as3 n3 cs3))
            replace O3 := Lib.hid (ownsRow_setCell_below O3.out (a := ⟨gz, 2, none⟩) (by show gz < _; omega) (.slice as3 n3 cs3))
            replace kz : Hid (Lok (wa3.setCell ⟨gz, 2, none⟩ (.slice as3 n3 cs3)) gz 26 #[.slice as1 n1 cs1, .slice as2 n2 cs2, .slice as3 n3 cs3, .slice none 0 0]) := Lib.hid (kz.out.set (i := 2) (v := .slice as3 n3 cs3))
            replace BW := Lib.hid (BW.out.setCell (p := ⟨gz, 2, none⟩) (Nat.le_refl _) (.slice as3 n3 cs3))
            have hz3 : wa3.heap.size = (wa3.setCell ⟨gz, 2, none⟩ (.slice as3 n3 cs3)).heap.size := by simp
            replace hsz : gz + 1 ≤ (wa3.setCell ⟨gz, 2, none⟩ (.slice as3 n3 cs3)).heap.size := by rw [← hz3]; omega
            clear z0 z1 z2 z3 f2 hsa3
            generalize wa3.setCell ⟨gz, 2, none⟩ (.slice as3 n3 cs3) = W3 at *
            clear hz3
            obtain ⟨iI4, hI4, hy4, hu4, hv4⟩ := info_parts infoT9
            have z0 := kz.out.cell (i := 0) rfl
            have z1 := kz.out.cell (i := 1) rfl
            have z2 := kz.out.cell (i := 2) rfl
            have z3 := kz.out.cell (i := 3) rfl
            have m3 := (KM.out _ BW.out).cell (i := 3) rfl
            have q1 : Hid (0 + n4 ≤ maxLen) := Lib.hid (by unfold maxLen; omega)
            have q2 : Hid ((0 + n4) * 72 ≤ 140737488355328) := Lib.hid (by omega)
            have HR := Lib.hid (MM.out _ BW.out).1.2.2.2
            go_wp2_with (at_builtin; refine wpList_append_catk rfl _ _ 24 rfl W3.heap.size 51 iI4 _ 9 72 Try.underlying24 hI4 hy4 hu4 hv4 rfl (by decide) (.slice none 0 0) 0 (fun _ _ => 0) rfl (World.ownsRow_nil _ _ _ _) pa4 n4 c4 FC rfl (HZ.out.2.2.2) HR.out q1.out q2.out (Nat.le_refl _) ?_)
            intro va4 wa4 own4 hba4
            have O4 := Lib.hid (own_cat0 own4)
            replace kz := Lib.hid (kz.out.keep hba4)
            replace BW := Lib.hid (BW.out.trans (hba4.mono (by omega)))
            have AB := Lib.hid ((AbP.refl (gz + 1) W3).keep hba4)
            have hsa4 := hba4.size
            obtain ⟨as4, cs4, rfl, -, -, -, -⟩ := rowK_of_own O4.out
            clear own4 hba4 q1 q2 HR z0 z1 z2 z3 m3
            have z0 := kz.out.cell (i := 0) rfl
            have z1 := kz.out.cell (i := 1) rfl
            have z2 := kz.out.cell (i := 2) rfl
            have z3 := kz.out.cell (i := 3) rfl
            have f3 := kz.out.frozen 3
            go_upto_region 16 with fail
            replace O4 := Lib.hid (ownsRow_setCell_below O4.out (a := ⟨gz, 3, none⟩) (by show gz < _; omega) (.slice as4 n4 cs4))
            replace kz : Hid (Lok (wa4.setCell ⟨gz, 3, none⟩ (.slice as4 n4 cs4)) gz 26 #[.slice as1 n1 cs1, .slice as2 n2 cs2, .slice as3 n3 cs3, .slice as4 n4 cs4]) := Lib.hid (kz.out.set (i := 3) (v := .slice as4 n4 cs4))
            replace BW := Lib.hid (BW.out.setCell (p := ⟨gz, 3, none⟩) (Nat.le_refl _) (.slice as4 n4 cs4))
            replace AB := Lib.hid (AB.out.set (i := 3) (Nat.lt_succ_self gz) (.slice as4 n4 cs4))
            have hz4 : wa4.heap.size = (wa4.setCell ⟨gz, 3, none⟩ (.slice as4 n4 cs4)).heap.size := by simp
            have hs4 : W3.heap.size ≤ (wa4.setCell ⟨gz, 3, none⟩ (.slice as4 n4 cs4)).heap.size := by rw [← hz4]; exact hsa4
            clear z0 z1 z2 z3 f3 hsa4
            generalize wa4.setCell ⟨gz, 3, none⟩ (.slice as4 n4 cs4) = W4 at *
            clear hz4
            have MV := Lib.hid (mo_vals n4 FC a b c)
            have OO4 : Hid (OwnR W4 W3.heap.size 51 9 (.slice as4 n4 cs4) n4 (valsK n4 9 FC)) := O4
            have kz0 := kz.out
            have ab0 := AB.out
            have oo0 := OO4.out
            have hbound : gz ≤ W4.heap.size := by omega
            have hb4 : W3.heap.size ≤ W4.heap.size := hs4
            have hlt3 : gz < W3.heap.size := by omega
            refine wp_region_rel2 (by kernel_rfl) [96, 97, 98, 99, 100, 101, 102, 103, 104] ?Fr1 ?hFr1
              (fun L u W => Below gz W4 W ∧ (L 0 = true → u 96 = .pointer (some ⟨gz, 3, none⟩)) ∧ (L 1 = true → u 97 = .slice as4 n4 cs4) ∧ (L 2 = true → u 98 = .int .i64 a) ∧ (L 3 = true → u 99 = .int .i64 b) ∧ (L 4 = true → u 100 = .int .i64 c) ∧ (L 5 = true → u 101 = .agg #[.int .i64 a, .int .i64 (-1), .int .i64 (-1), .int .i64 b, .int .i64 (-1), .int .i64 (-1), .int .i64 c, .int .i64 (-1), .int .i64 (-1)]) ∧ (L 6 = true → L 7 = false → RowAt W (u 102) 1 51 #[.int .i64 a, .int .i64 (-1), .int .i64 (-1), .int .i64 b, .int .i64 (-1), .int .i64 (-1), .int .i64 c, .int .i64 (-1), .int .i64 (-1)]) ∧ (L 7 = true → L 9 = false → OwnR W W3.heap.size 51 9 (u 103) (n4 + 1) (valsK (n4 + 1) 9 (moF n4 FC a b c))) ∧ (L 8 = true → u 104 = .pointer (some ⟨gz, 3, none⟩)) ∧ (L 9 = true → MoK W W3 gz (.slice as1 n1 cs1) (.slice as2 n2 cs2) (.slice as3 n3 cs3) n4 (moF n4 FC a b c)) ∧ (L 9 = false → Lok W gz 26 #[.slice as1 n1 cs1, .slice as2 n2 cs2, .slice as3 n3 cs3, .slice as4 n4 cs4]) ∧ (L 9 = false → AbP (gz + 1) W3 W) ∧ (L 7 = false → OwnR W W3.heap.size 51 9 (.slice as4 n4 cs4) n4 (valsK n4 9 FC)) ∧ (L 9 = false → True) ∧ (L 9 = true → L 7 = true) ∧ (L 7 = false → True) ∧ (L 7 = true → L 1 = true)) (by kernel_rfl) (by kernel_rfl) 10 rfl ?h0r1 ?stepr1 ?finr1
            case hFr1 => intro u; simp only [putAll, Act.put, List.setIfInBounds_toArray, List.set]; exact rfl
            case h0r1 => intro L hL; exact ⟨(Below.refl _ _).drew, (fun h => by simp [hL] at h), (fun h => by simp [hL] at h), (fun h => by simp [hL] at h), (fun h => by simp [hL] at h), (fun h => by simp [hL] at h), (fun h => by simp [hL] at h), (fun h => by simp [hL] at h), (fun h => by simp [hL] at h), (fun h => by simp [hL] at h), (fun h => by simp [hL] at h), (fun _ => by assumption), (fun _ => by assumption), (fun _ => by assumption), (fun _ => by first | rfl | trivial), (fun h => by simp [hL] at h), (fun _ => by first | rfl | trivial), (fun h => by simp [hL] at h)⟩
            case stepr1 =>
              refine ops_all (ops_cons ?s0r1 (ops_cons ?s1r1 (ops_cons ?s2r1 (ops_cons ?s3r1 (ops_cons ?s4r1 (ops_cons ?s5r1 (ops_cons ?s6r1 (ops_cons ?s7r1 (ops_cons ?s8r1 (ops_cons ?s9r1 (ops_nil)))))))))))
              case s0r1 =>
                rintro L u W ⟨hB, c0, c1, c2, c3, c4, c5, c6, c7, c8, c9, pre0, pre1, pre2, ini0, id0, ini1, id1⟩ hf hd K hK
                dsimp only at hK
                clear hd
                go_simp
                refine hK _ _ ?_ (fun h => by cases h)
                intro s hs
                cases hs
                exact ⟨hB, (fun _ => rfl), c1, c2, c3, c4, c5, c6, c7, c8, c9, pre0, pre1, pre2, ini0, id0, ini1, id1⟩
              case s1r1 =>
                rintro L u W ⟨hB, c0, c1, c2, c3, c4, c5, c6, c7, c8, c9, pre0, pre1, pre2, ini0, id0, ini1, id1⟩ hf hd K hK
                dsimp only at hK
                have hd0 : L 0 = true := (by first | (refine hd ⟨0, .data⟩ ?_ rfl; simp; done) | (refine hd ⟨0, .guard⟩ ?_ rfl; simp; done) | (refine hd ⟨0, .phase⟩ ?_ rfl; simp; done) | (refine hd ⟨0, .chain⟩ ?_ rfl; simp; done))
                have e0 := c0 hd0
                rw [e0] at hK
                have t0 := (pre0 (by cases h9 : L 9 with | false => rfl | true => rw [id1 (id0 h9)] at hf; cases hf)).cell (i := 3) rfl
                clear hd0
                clear hd
                go_simp
                refine hK _ _ ?_ (fun h => by cases h)
                intro s hs
                cases hs
                exact ⟨hB, c0, (fun _ => rfl), c2, c3, c4, c5, c6, c7, c8, c9, pre0, pre1, pre2, ini0, id0, ini1, (fun _ => rfl)⟩
              case s2r1 =>
                rintro L u W ⟨hB, c0, c1, c2, c3, c4, c5, c6, c7, c8, c9, pre0, pre1, pre2, ini0, id0, ini1, id1⟩ hf hd K hK
                dsimp only at hK
                clear hd
                go_simp
                refine hK _ _ ?_ (fun h => by cases h)
                intro s hs
                cases hs
                exact ⟨hB, c0, c1, (fun _ => rfl), c3, c4, c5, c6, c7, c8, c9, pre0, pre1, pre2, ini0, id0, ini1, id1⟩
              case s3r1 =>
                rintro L u W ⟨hB, c0, c1, c2, c3, c4, c5, c6, c7, c8, c9, pre0, pre1, pre2, ini0, id0, ini1, id1⟩ hf hd K hK
                dsimp only at hK
                clear hd
                go_simp
                refine hK _ _ ?_ (fun h => by cases h)
                intro s hs
                cases hs
                exact ⟨hB, c0, c1, c2, (fun _ => rfl), c4, c5, c6, c7, c8, c9, pre0, pre1, pre2, ini0, id0, ini1, id1⟩
              case s4r1 =>
                rintro L u W ⟨hB, c0, c1, c2, c3, c4, c5, c6, c7, c8, c9, pre0, pre1, pre2, ini0, id0, ini1, id1⟩ hf hd K hK
                dsimp only at hK
                clear hd
                go_simp
                refine hK _ _ ?_ (fun h => by cases h)
                intro s hs
                cases hs
                exact ⟨hB, c0, c1, c2, c3, (fun _ => rfl), c5, c6, c7, c8, c9, pre0, pre1, pre2, ini0, id0, ini1, id1⟩
              case s5r1 =>
                rintro L u W ⟨hB, c0, c1, c2, c3, c4, c5, c6, c7, c8, c9, pre0, pre1, pre2, ini0, id0, ini1, id1⟩ hf hd K hK
                dsimp only at hK
                have hd2 : L 2 = true := (by first | (refine hd ⟨2, .data⟩ ?_ rfl; simp; done) | (refine hd ⟨2, .guard⟩ ?_ rfl; simp; done) | (refine hd ⟨2, .phase⟩ ?_ rfl; simp; done) | (refine hd ⟨2, .chain⟩ ?_ rfl; simp; done))
                have hd3 : L 3 = true := (by first | (refine hd ⟨3, .data⟩ ?_ rfl; simp; done) | (refine hd ⟨3, .guard⟩ ?_ rfl; simp; done) | (refine hd ⟨3, .phase⟩ ?_ rfl; simp; done) | (refine hd ⟨3, .chain⟩ ?_ rfl; simp; done))
                have hd4 : L 4 = true := (by first | (refine hd ⟨4, .data⟩ ?_ rfl; simp; done) | (refine hd ⟨4, .guard⟩ ?_ rfl; simp; done) | (refine hd ⟨4, .phase⟩ ?_ rfl; simp; done) | (refine hd ⟨4, .chain⟩ ?_ rfl; simp; done))
                have e2 := c2 hd2
                rw [e2] at hK
                have e3 := c3 hd3
                rw [e3] at hK
                have e4 := c4 hd4
                rw [e4] at hK
                clear hd2
                clear hd3
                clear hd4
                clear hd
                go_simp
                go_wp2_with (go_at_call 28; ((with_reducible refine (lthree_any a b c _).mono ?_); rintro e w5 ⟨rfl, hb⟩))
                refine hK _ _ ?_ (fun h => by cases h)
                intro s hs
                cases hs
                exact ⟨hB.trans (hb.mono (Nat.le_trans hbound hB.size)), c0, c1, c2, c3, c4, (fun _ => rfl), (fun h k => (c6 h k).keep hb), (fun h k => (c7 h k).keep hb), c8, (fun h => (c9 h).keep hb), (fun h => (pre0 h).keep hb), (fun h => (pre1 h).keep hb), (fun h => (pre2 h).keep hb), ini0, id0, ini1, id1⟩
              case s6r1 =>
                rintro L u W ⟨hB, c0, c1, c2, c3, c4, c5, c6, c7, c8, c9, pre0, pre1, pre2, ini0, id0, ini1, id1⟩ hf hd K hK
                dsimp only at hK
                have hd5 : L 5 = true := (by first | (refine hd ⟨5, .data⟩ ?_ rfl; simp; done) | (refine hd ⟨5, .guard⟩ ?_ rfl; simp; done) | (refine hd ⟨5, .phase⟩ ?_ rfl; simp; done) | (refine hd ⟨5, .chain⟩ ?_ rfl; simp; done))
                have e5 := c5 hd5
                rw [e5] at hK
                clear hd5
                clear hd
                go_simp
                have hb : Below W.heap.size W (W.alloc (.cells #[.int .i64 a, .int .i64 (-1), .int .i64 (-1), .int .i64 b, .int .i64 (-1), .int .i64 (-1), .int .i64 c, .int .i64 (-1), .int .i64 (-1)] 51)) := (Below.refl _ W).alloc (Nat.le_refl _) _
                refine hK _ _ ?_ (fun h => by cases h)
                intro s hs
                cases hs
                exact ⟨hB.trans (hb.mono (Nat.le_trans hbound hB.size)), c0, c1, c2, c3, c4, c5, (fun _ _ => ⟨_, rfl, Lok.new _ _ _⟩), (fun h k => (c7 h k).keep hb), c8, (fun h => (c9 h).keep hb), (fun h => (pre0 h).keep hb), (fun h => (pre1 h).keep hb), (fun h => (pre2 h).keep hb), ini0, id0, ini1, id1⟩
              case s7r1 =>
                rintro L u W ⟨hB, c0, c1, c2, c3, c4, c5, c6, c7, c8, c9, pre0, pre1, pre2, ini0, id0, ini1, id1⟩ hf hd K hK
                dsimp only at hK
                have hdi1 : L 1 = true := (by first | (refine hd ⟨1, .data⟩ ?_ rfl; simp; done) | (refine hd ⟨1, .phase⟩ ?_ rfl; simp; done) | (refine hd ⟨1, .chain⟩ ?_ rfl; simp; done))
                replace hdi1 := Lib.hid hdi1
                have hd1 : L 1 = true := (by first | (refine hd ⟨1, .data⟩ ?_ rfl; simp; done) | (refine hd ⟨1, .guard⟩ ?_ rfl; simp; done) | (refine hd ⟨1, .phase⟩ ?_ rfl; simp; done) | (refine hd ⟨1, .chain⟩ ?_ rfl; simp; done))
                have hd6 : L 6 = true := (by first | (refine hd ⟨6, .data⟩ ?_ rfl; simp; done) | (refine hd ⟨6, .guard⟩ ?_ rfl; simp; done) | (refine hd ⟨6, .phase⟩ ?_ rfl; simp; done) | (refine hd ⟨6, .chain⟩ ?_ rfl; simp; done))
                have e1 := c1 hd1
                have e6 := c6 hd6 (by first | exact hf | assumption)
                clear hd1
                clear hd6
                clear hd
                refine Eq.mpr (if_pos rfl) ?_
                obtain ⟨g5, eg, lg⟩ := e6
                refine app_act _ _ 24 51 _ 9 72 Try.underlying24 infoT9 rfl (by decide) rfl W3.heap.size (.slice as4 n4 cs4) n4 (valsK n4 9 FC) _ rfl (fun u hu => by simp at hu; rcases hu with rfl | rfl | rfl | rfl | rfl | rfl | rfl | rfl | rfl <;> rfl) e1 (pre2 hf) g5 1 eg lg (by omega) (by omega) (Nat.le_trans hb4 hB.size) ?_
                intro v5 W5 q hb'
                rw [← MV.out] at q
                have hb : Below gz W W5 := hb'.mono (by omega)
                have hk0 := fun (h : Lok W gz 26 #[.slice as1 n1 cs1, .slice as2 n2 cs2, .slice as3 n3 cs3, .slice as4 n4 cs4]) => h.keepB hb' (by omega)
                have hk1 := fun (h : AbP (gz + 1) W3 W) => h.keepB hb' (Nat.le_refl _)
                refine hK _ _ ?_ (fun h => by cases h)
                intro s hs
                cases hs
                exact ⟨hB.trans hb, c0, (fun h => by first | rfl | exact c1 h), c2, c3, c4, c5, (fun _ h => by cases h), (fun _ _ => q), c8, (fun h => by have z := id0 h; rw [hf] at z; cases z), (fun h => hk0 (pre0 h)), (fun h => hk1 (pre1 h)), (fun h => by cases h), ini0, (fun _ => rfl), (fun h => by cases h), (fun _ => hdi1.out)⟩
              case s8r1 =>
                rintro L u W ⟨hB, c0, c1, c2, c3, c4, c5, c6, c7, c8, c9, pre0, pre1, pre2, ini0, id0, ini1, id1⟩ hf hd K hK
                dsimp only at hK
                clear hd
                go_simp
                refine hK _ _ ?_ (fun h => by cases h)
                intro s hs
                cases hs
                exact ⟨hB, c0, c1, c2, c3, c4, c5, c6, c7, (fun _ => rfl), c9, pre0, pre1, pre2, ini0, id0, ini1, id1⟩
              case s9r1 =>
                rintro L u W ⟨hB, c0, c1, c2, c3, c4, c5, c6, c7, c8, c9, pre0, pre1, pre2, ini0, id0, ini1, id1⟩ hf hd K hK
                dsimp only at hK
                have hdi0 : L 7 = true := (by first | (refine hd ⟨7, .data⟩ ?_ rfl; simp; done) | (refine hd ⟨7, .phase⟩ ?_ rfl; simp; done) | (refine hd ⟨7, .chain⟩ ?_ rfl; simp; done))
                replace hdi0 := Lib.hid hdi0
                have hd7 : L 7 = true := (by first | (refine hd ⟨7, .data⟩ ?_ rfl; simp; done) | (refine hd ⟨7, .guard⟩ ?_ rfl; simp; done) | (refine hd ⟨7, .phase⟩ ?_ rfl; simp; done) | (refine hd ⟨7, .chain⟩ ?_ rfl; simp; done))
                have hd8 : L 8 = true := (by first | (refine hd ⟨8, .data⟩ ?_ rfl; simp; done) | (refine hd ⟨8, .guard⟩ ?_ rfl; simp; done) | (refine hd ⟨8, .phase⟩ ?_ rfl; simp; done) | (refine hd ⟨8, .chain⟩ ?_ rfl; simp; done))
                have e7 := c7 hd7 (by first | exact hf | assumption)
                have e8 := c8 hd8
                have hdx7 := Lib.hid hd7
                clear hd7
                clear hd8
                clear hd
                obtain ⟨aQ, cQ, eQ, -, -, -, -⟩ := rowK_of_own e7
                rw [e8] at hK
                rw [eQ] at hK e7
                have k0 := Lib.hid (pre0 hf)
                have a0 := Lib.hid (pre1 hf)
                have O7 := Lib.hid e7
                have t0 := k0.out.cell (i := 3) rfl
                have f0 := k0.out.frozen 3
                clear e7
                go_simp
                have hb : Below gz W (W.setCell ⟨gz, 3, none⟩ (.slice aQ (n4 + 1) cQ)) := (Below.refl _ W).setCell (p := ⟨gz, 3, none⟩) (Nat.le_refl _) _
                have q : MoK (W.setCell ⟨gz, 3, none⟩ (.slice aQ (n4 + 1) cQ)) W3 gz (.slice as1 n1 cs1) (.slice as2 n2 cs2) (.slice as3 n3 cs3) n4 (moF n4 FC a b c) := ⟨_, k0.out.set (i := 3), a0.out.set (Nat.lt_succ_self gz) _, ownsRow_setCell_below O7.out (a := ⟨gz, 3, none⟩) hlt3 _⟩
                have hk2 := fun (h : OwnR W W3.heap.size 51 9 (.slice as4 n4 cs4) n4 (valsK n4 9 FC)) => (ownsRow_setCell_below h (a := ⟨gz, 3, none⟩) hlt3 (.slice aQ (n4 + 1) cQ) : OwnR _ W3.heap.size 51 9 (.slice as4 n4 cs4) n4 (valsK n4 9 FC))
                refine hK undef _ (fun s h => by cases h) (fun _ => ?_)
                exact ⟨hB.trans hb, c0, c1, c2, c3, c4, c5, (fun _ h => by have z := hdx7.out; rw [show L 7 = false from h] at z; cases z), (fun _ h => by cases h), (fun h => by first | rfl | exact c8 h), (fun _ => q), (fun h => by cases h), (fun h => by cases h), (fun h => hk2 (pre2 h)), (fun h => by cases h), (fun _ => hdi0.out), ini1, id1⟩
            case finr1 =>
              rintro L u W hL ⟨hB, c0, c1, c2, c3, c4, c5, c6, c7, c8, c9, pre0, pre1, pre2, ini0, id0, ini1, id1⟩
              have e0 := c0 (hL 0 (by decide))
              have e1 := c1 (hL 1 (by decide))
              have e2 := c2 (hL 2 (by decide))
              have e3 := c3 (hL 3 (by decide))
              have e4 := c4 (hL 4 (by decide))
              have e5 := c5 (hL 5 (by decide))
              have e8 := c8 (hL 8 (by decide))
              have kq9 := c9 (hL 9 (by decide))
              clear hL c0 c1 c2 c3 c4 c5 c6 c7 c8 c9 pre0 pre1 pre2 ini0 id0 ini1 id1
              try simp only [e0, e1, e2, e3, e4, e5, e8]
              clear e0 e1 e2 e3 e4 e5 e8
              obtain ⟨v4, k9, a9, o9⟩ := kq9
              obtain ⟨a4, d4, rfl, -, -, -, R4⟩ := rowK_of_own o9
              have M3 : Hid (MsW W as1 as2 as3 a4 n1 n2 n3 (n4 + 1) FV FT FN (moF n4 FC a b c)) := Lib.hid ⟨⟨row_above O1.out (Nat.le_refl _) a9, row_above O2.out (Nat.le_refl _) a9, row_above O3.out (Nat.le_refl _) a9, R4⟩, by omega, by omega, by omega, by omega⟩
              have hB4 := BW.out.trans hB
              have HB := Lib.hid (HBW.out _ hB4)
              have R2 := Lib.hid (RM.out _ hB4)
              have kv := Lib.hid k9
              clear k9 a9 o9 R4 hB4 hB BW KM RM MM HBW AB O1 O2 O3 O4 MV OO4 kz kz0 ab0 oo0
              have PB := Lib.hid (partsE_any as1 as2 as3 a4 n1 n2 n3 (n4 + 1) cs1 cs2 cs3 d4 FV FT FN (moF n4 FC a b c) W M3.out)
              have IB := Lib.hid (fun W' (h : Below W.heap.size W W') => mis_any as1 as2 as3 a4 n1 n2 n3 (n4 + 1) cs1 cs2 cs3 d4 FV FT FN (moF n4 FC a b c) W' (M3.out.keep h))
              have y0 := kv.out.cell (i := 0) rfl
              have y1 := kv.out.cell (i := 1) rfl
              have y2 := kv.out.cell (i := 2) rfl
              have y3 := kv.out.cell (i := 3) rfl
              have B5 := Lib.hid (Below.refl W.heap.size W)
              clear M3
              cases hq : msB n1 n2 n3 (n4 + 1) FV FT FN (moF n4 FC a b c) with
              | false =>
                rw [hq] at IB PB
                rw [show agE false = 1 from rfl, show ptA false (moF n4 FC a b c) (n4 + 1) = [] from rfl] at PB
                go_wp2_with fail
                ((with_reducible refine PB.out.mono ?_); rintro e w6 ⟨⟨v6, rfl, O6⟩, hb6⟩)
                obtain ⟨a6, d6, rfl, -, -, -, -⟩ := rowI_of_own O6
                replace HB := Lib.hid (HB.out.trans (hb6.mono HB.out.size))
                replace B5 := Lib.hid (B5.out.trans hb6)
                replace kv := Lib.hid (kv.out.keep hb6)
                clear O6 PB hb6 y0 y1 y2 y3
                go_wp2_with fail
                ((with_reducible refine (ED.out _).mono ?_); rintro e w7 ⟨rfl, hb7⟩)
                replace HB := Lib.hid (HB.out.trans (hb7.mono HB.out.size))
                replace B5 := Lib.hid (B5.out.trans (hb7.mono B5.out.size))
                replace kv := Lib.hid (kv.out.keep hb7)
                clear hb7
                have y0 := kv.out.cell (i := 0) rfl
                have y1 := kv.out.cell (i := 1) rfl
                have y2 := kv.out.cell (i := 2) rfl
                have y3 := kv.out.cell (i := 3) rfl
                go_wp2_with fail
                clear y0 y1 y2 y3
                (((with_reducible refine (IB.out _ B5.out).mono ?_); rintro e w8 ⟨rfl, hb8⟩); replace HB := Lib.hid (HB.out.trans (hb8.mono HB.out.size)); clear hb8)
                go_wp2
                go_ret
                exact ⟨rfl, HB.out⟩
              | true =>
                rw [hq] at PB
                rw [show agE true = 0 from rfl, show ptA true (moF n4 FC a b c) (n4 + 1) = ptR (moF n4 FC a b c) (n4 + 1) (n4 + 1) from rfl] at PB
                clear IB hq
                go_wp2_with fail
                ((with_reducible refine PB.out.mono ?_); rintro e w6 ⟨⟨v6, rfl, O6⟩, hb6⟩)
                obtain ⟨a6, d6, rfl, -, -, -, R6⟩ := rowI_of_own O6
                simp only [ptR_len] at R6 ⊢
                replace HB := Lib.hid (HB.out.trans (hb6.mono HB.out.size))
                replace R2 := Lib.hid (R2.out.keep hb6)
                replace R6 := Lib.hid R6
                clear O6 PB hb6 y0 y1 y2 y3 kv B5
                have HB0 := HB
                have B2 := Lib.hid (Below.refl w6.heap.size w6)
                clear HB
                go_wp2_with fail
                go_loopw [15] (fun x wr => ∃ i : Nat, x = .int .i64 i ∧ i ≤ n4 ∧ Below w6.heap.size w6 wr) (fun x _ => n4 - (intOf x).toNat)
                case atStart => exact ⟨0, rfl, Nat.zero_le _, B2.out⟩
                case round =>
                  clear B2
                  obtain ⟨i, rfl, hi, hB⟩ := hrel
                  have B2 := Lib.hid hB
                  clear hB
                  by_cases hlt : i < n4
                  · have i0 : (0 : Int) ≤ (i : Int) := by omega
                    have i1 : (i : Int) < (n4 : Int) := by omega
                    have i2 : ((i : Int)).toNat = i := by omega
                    have i3 : (i : Int) < (n4 : Int) + 1 := by omega
                    go_wp2_with fail
                    go_loopw [16] (fun x wr => ∃ j : Nat, x = .int .i64 j ∧ j ≤ n4 ∧ Below w6.heap.size w6 wr) (fun x _ => n4 - (intOf x).toNat)
                    case atStart => exact ⟨0, rfl, Nat.zero_le _, B2.out⟩
                    case round =>
                      clear B2
                      obtain ⟨j, rfl, hj, hB⟩ := hrel
                      have B2 := Lib.hid hB
                      clear hB
                      by_cases hjt : j < n4
                      · have j0 : (0 : Int) ≤ (j : Int) := by omega
                        have j1 : (j : Int) < (n4 : Int) := by omega
                        have j2 : ((j : Int)).toNat = j := by omega
                        have j3 : (j : Int) < (n4 : Int) + 1 := by omega
                        obtain ⟨g2, o2, rfl, hg2, hc2⟩ := (R2.out.keep B2.out).at hlt
                        have p1 := hc2 i hlt
                        have p2 := hc2 j hjt
                        clear hc2
                        obtain ⟨g6, o6, rfl, hg6, hc6⟩ := (R6.out.keep B2.out).at (i := i) (by omega)
                        have r1 := hc6 i (by omega)
                        have r2 := hc6 j (by omega)
                        clear hc6
                        have EQ := Lib.hid (fun (e : (ptR FC n4 n4).getD i 0 = (ptR FC n4 n4).getD j 0) => pt_more (G := moF n4 FC a b c) mo_next hlt hjt e)
                        generalize (ptR FC n4 n4).getD i 0 = u1 at *
                        generalize (ptR FC n4 n4).getD j 0 = u2 at *
                        generalize (ptR (moF n4 FC a b c) (n4 + 1) (n4 + 1)).getD i 0 = u3 at *
                        generalize (ptR (moF n4 FC a b c) (n4 + 1) (n4 + 1)).getD j 0 = u4 at *
                        go_upto_region 26 with fail
                        by_cases e1 : u1 = u2
                        · have e2 := EQ.out e1
                          clear EQ
                          subst e1
                          subst e2
                          have e3 : (u1 == u1) = true := by simp
                          have e4 : (u3 != u3) = false := by simp
                          go_quiet (fail)
                          go_wp2
                          go_roundw
                          case rel => exact ⟨j + 1, by go_num, hjt, below_drewN B2.out _⟩
                          case measure => simp [intOf]; omega
                        · clear EQ
                          have e3 : (u1 == u2) = false := by simpa using e1
                          go_quiet (fail)
                          go_wp2
                          go_roundw
                          case rel => exact ⟨j + 1, by go_num, hjt, below_drewN B2.out _⟩
                          case measure => simp [intOf]; omega
                      · obtain rfl : n4 = j := by omega
                        go_wp2
                        go_roundw
                        case rel => exact ⟨i + 1, by go_num, hlt, B2.out⟩
                        case measure => simp [intOf]; omega
                  · obtain rfl : n4 = i := by omega
                    have HB := Lib.hid (HB0.out.trans (B2.out.mono HB0.out.size))
                    clear HB0 B2 hlt hi R2 R6
                    go_wp2_with fail
                    (((with_reducible refine (ED.out _).mono ?_); rintro e w9 ⟨rfl, hb9⟩); replace HB := Lib.hid (HB.out.trans (hb9.mono HB.out.size)); clear hb9)
                    go_wp2
                    go_ret
                    exact ⟨rfl, HB.out⟩
end Go.Proofs.Ytkheomaihhcokaa
