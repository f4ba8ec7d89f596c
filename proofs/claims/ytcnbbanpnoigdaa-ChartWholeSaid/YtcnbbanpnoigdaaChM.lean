/-
  The law ChartApart, from what the package is to answer. (gen/ChM.py)
-/
import Derived.Test.YtcnbbanpnoigdaaHi
import Derived.Test.YtcnbbanpnoigdaaHf
import Derived.BigQuiet
namespace Go.Proofs.Ytcnbbanpnoigdaa
open Go.RowKit

theorem grow_len (F : ChF) : ∀ k, (F.grow k).length ≤ k
  | 0 => Nat.le_refl 0
  | k + 1 => by
    have := grow_len F k
    unfold ChF.grow
    split
    · rw [List.length_append]; show _ + 1 ≤ _; omega
    · omega
set_option maxRecDepth 100000 in
set_option maxHeartbeats 32000000 in
theorem law_apart (E : ChOK) (CH : ∀ w, Calls Try.prog 9 #[] w fun e w' => e = .returned (.bool true) ∧ Below w.heap.size w w') (pa1 pa2 pa3 pa4 : Option Addr) (n1 n2 n3 n4 c1 c2 c3 c4 : Nat) (FV FT FN FC : Nat → Nat → Int) (w : World) (hm : RowK w pa1 n1 3 FV ∧ RowK w pa2 n2 2 FT ∧ RowK w pa3 n3 3 FN ∧ RowK w pa4 n4 9 FC) :
    Calls Try.prog 4 #[.agg #[.slice pa1 n1 c1, .slice pa2 n2 c2, .slice pa3 n3 c3, .slice pa4 n4 c4]] w fun e w' => e = .returned (.bool true) ∧ Below w.heap.size w w' := by
  have HB := Lib.hid (Below.refl w.heap.size w)
  have FW := Lib.hid (fun W => rfew15_any pa1 pa2 pa3 pa4 n1 n2 n3 n4 c1 c2 c3 c4 W)
  have CD := Lib.hid CH
  clear CH
  cases hf : fw15 n1 n2 n3 n4 with
  | false =>
    rw [hf] at FW
    go_enter Try.func4, Try.ntmps4
    go_upto_region 1 with fail
    have hbm := below_new1 w (.cells #[.slice pa1 n1 c1, .slice pa2 n2 c2, .slice pa3 n3 c3, .slice pa4 n4 c4] 26)
    have zm : (w.alloc (.cells #[.slice pa1 n1 c1, .slice pa2 n2 c2, .slice pa3 n3 c3, .slice pa4 n4 c4] 26)).heap.size = w.heap.size + 1 := by simp
    have HB := Lib.hid hbm
    have km := Lib.hid (Lok.new w 26 #[.slice pa1 n1 c1, .slice pa2 n2 c2, .slice pa3 n3 c3, .slice pa4 n4 c4])
    clear hbm
    generalize w.alloc (.cells #[.slice pa1 n1 c1, .slice pa2 n2 c2, .slice pa3 n3 c3, .slice pa4 n4 c4] 26) = Vm at *
    clear zm
    have m0 := km.out.cell (i := 0) rfl
    have m1 := km.out.cell (i := 1) rfl
    have m2 := km.out.cell (i := 2) rfl
    have m3 := km.out.cell (i := 3) rfl
    go_wp2_with fail
    clear m0 m1 m2 m3
    (((with_reducible refine (FW.out _).mono ?_); rintro e w1 ⟨rfl, hb1⟩); replace HB := Lib.hid (HB.out.trans (hb1.mono HB.out.size)); replace km := Lib.hid (km.out.keep hb1); clear hb1)
    clear km
    go_wp2
    go_ret
    exact ⟨rfl, HB.out⟩
  | true =>
    have q := fw15_yes hf
    rw [hf] at FW
    have M := Lib.hid (show MsW w pa1 pa2 pa3 pa4 n1 n2 n3 n4 FV FT FN FC from ⟨hm, by omega, by omega, by omega, by omega⟩)
    have GR := Lib.hid (fun W (h : Below w.heap.size w W) => E.grow pa1 pa2 pa3 pa4 n1 n2 n3 n4 c1 c2 c3 c4 FV FT FN FC W (M.out.keep h) q.1.1 q.2)
    have SH := Lib.hid (fun i ax W (h : Below w.heap.size w W) => E.shadow pa1 pa2 pa3 pa4 n1 n2 n3 n4 c1 c2 c3 c4 FV FT FN FC i ax W (M.out.keep h) q.1.1 q.2)
    clear hf hm E M
    cases hr : tmB n1 n2 n3 n4 FV FT FN FC with
    | false =>
      rw [hr] at GR
      rw [show agE false = 1 from rfl, show chA false n4 FV FC = [] from rfl] at GR
      clear hr SH
      go_enter Try.func4, Try.ntmps4
      go_upto_region 1 with fail
      have hbm := below_new1 w (.cells #[.slice pa1 n1 c1, .slice pa2 n2 c2, .slice pa3 n3 c3, .slice pa4 n4 c4] 26)
      have zm : (w.alloc (.cells #[.slice pa1 n1 c1, .slice pa2 n2 c2, .slice pa3 n3 c3, .slice pa4 n4 c4] 26)).heap.size = w.heap.size + 1 := by simp
      have HB := Lib.hid hbm
      have km := Lib.hid (Lok.new w 26 #[.slice pa1 n1 c1, .slice pa2 n2 c2, .slice pa3 n3 c3, .slice pa4 n4 c4])
      clear hbm
      generalize w.alloc (.cells #[.slice pa1 n1 c1, .slice pa2 n2 c2, .slice pa3 n3 c3, .slice pa4 n4 c4] 26) = Vm at *
      clear zm
      have m0 := km.out.cell (i := 0) rfl
      have m1 := km.out.cell (i := 1) rfl
      have m2 := km.out.cell (i := 2) rfl
      have m3 := km.out.cell (i := 3) rfl
      go_wp2_with fail
      clear m0 m1 m2 m3
      (((with_reducible refine (FW.out _).mono ?_); rintro e w1 ⟨rfl, hb1⟩); replace HB := Lib.hid (HB.out.trans (hb1.mono HB.out.size)); replace km := Lib.hid (km.out.keep hb1); clear hb1)
      have m0 := km.out.cell (i := 0) rfl
      have m1 := km.out.cell (i := 1) rfl
      have m2 := km.out.cell (i := 2) rfl
      have m3 := km.out.cell (i := 3) rfl
      go_wp2_with fail
      clear m0 m1 m2 m3
      ((with_reducible refine (GR.out _ HB.out).mono ?_); rintro e w2 ⟨⟨v2, Z2, rfl, O2, HZ2⟩, hb2⟩)
      obtain ⟨a2, d2, rfl, -, -, -, -⟩ := rowC_of_own O2
      clear O2 HZ2 GR FW km
      replace HB := Lib.hid (HB.out.trans (hb2.mono HB.out.size))
      clear hb2
      go_wp2_with fail
      (((with_reducible refine (CD.out _).mono ?_); rintro e w3 ⟨rfl, hb3⟩); replace HB := Lib.hid (HB.out.trans (hb3.mono HB.out.size)); clear hb3)
      go_wp2
      go_ret
      exact ⟨rfl, HB.out⟩
    | true =>
      rw [hr] at GR SH
      rw [show agE true = 0 from rfl, show chA true n4 FV FC = (chF true n4 FV FC).grow (chF true n4 FV FC).n from rfl] at GR
      have TRI : Hid (∀ c ∈ (chF true n4 FV FC).grow (chF true n4 FV FC).n, ∀ x ∈ c.2.2, shT true n4 x c.1 = true ∧ shR FV FC c.1.toNat x.toNat = true) := Lib.hid (fun c hc x hx => (grown_tri hr (((chF true n4 FV FC).grow_at hc).2.2 x hx).2.2.2).2)
      have APT : Hid (∀ c ∈ (chF true n4 FV FC).grow (chF true n4 FV FC).n, ∀ i j, j < i → i < c.2.2.length → (mV true (shM FV FC c.1.toNat (c.2.2.getD i 0).toNat (c.2.2.getD j 0).toNat) == 1) = false) := Lib.hid (fun c hc i j hj hi => by
        have z := (chF true n4 FV FC).grow_apart hc hj hi
        have t := fun k (hk : k < c.2.2.length) => (grown_tri hr (((chF true n4 FV FC).grow_at hc).2.2 (c.2.2.getD k 0) (by rw [List.getD_eq_getElem?_getD, List.getElem?_eq_getElem hk]; exact List.getElem_mem hk)).2.2.2).2.2
        have z' : (mV (shR FV FC c.1.toNat (c.2.2.getD i 0).toNat && shR FV FC c.1.toNat (c.2.2.getD j 0).toNat) (shM FV FC c.1.toNat (c.2.2.getD i 0).toNat (c.2.2.getD j 0).toNat) == 1) = false := z
        rwa [t i hi, t j (by omega)] at z')
      have TLN : Hid (∀ c ∈ (chF true n4 FV FC).grow (chF true n4 FV FC).n, c.2.2.length ≤ 12) := Lib.hid (fun c hc => by
        obtain ⟨P, g, -⟩ := ((chF true n4 FV FC).grown (Nat.le_refl _)).good c hc
        exact Nat.le_trans ((chF true n4 FV FC).good_len g) q.2)
      have LEN : ((chF true n4 FV FC).grow (chF true n4 FV FC).n).length ≤ 12 := Nat.le_trans (grow_len _ _) q.2
      clear hr
      generalize (chF true n4 FV FC).grow (chF true n4 FV FC).n = L at *
      go_enter Try.func4, Try.ntmps4
      go_upto_region 1 with fail
      have hbm := below_new1 w (.cells #[.slice pa1 n1 c1, .slice pa2 n2 c2, .slice pa3 n3 c3, .slice pa4 n4 c4] 26)
      have zm : (w.alloc (.cells #[.slice pa1 n1 c1, .slice pa2 n2 c2, .slice pa3 n3 c3, .slice pa4 n4 c4] 26)).heap.size = w.heap.size + 1 := by simp
      have HB := Lib.hid hbm
      have km := Lib.hid (Lok.new w 26 #[.slice pa1 n1 c1, .slice pa2 n2 c2, .slice pa3 n3 c3, .slice pa4 n4 c4])
      clear hbm
      generalize w.alloc (.cells #[.slice pa1 n1 c1, .slice pa2 n2 c2, .slice pa3 n3 c3, .slice pa4 n4 c4] 26) = Vm at *
      clear zm
      have m0 := km.out.cell (i := 0) rfl
      have m1 := km.out.cell (i := 1) rfl
      have m2 := km.out.cell (i := 2) rfl
      have m3 := km.out.cell (i := 3) rfl
      go_wp2_with fail
      clear m0 m1 m2 m3
      (((with_reducible refine (FW.out _).mono ?_); rintro e w1 ⟨rfl, hb1⟩); replace HB := Lib.hid (HB.out.trans (hb1.mono HB.out.size)); replace km := Lib.hid (km.out.keep hb1); clear hb1)
      have m0 := km.out.cell (i := 0) rfl
      have m1 := km.out.cell (i := 1) rfl
      have m2 := km.out.cell (i := 2) rfl
      have m3 := km.out.cell (i := 3) rfl
      go_wp2_with fail
      clear m0 m1 m2 m3
      ((with_reducible refine (GR.out _ HB.out).mono ?_); rintro e w2 ⟨⟨v2, Z2, rfl, O2, HZ2⟩, hb2⟩)
      obtain ⟨a2, d2, rfl, -, lc2, mc2, R2⟩ := rowC_of_own O2
      rw [HZ2] at R2
      have hkl := R2.1
      clear O2 HZ2 GR FW
      generalize Z2.length = k at *
      rw [hkl] at LEN
      replace R2 := Lib.hid R2
      replace HB := Lib.hid (HB.out.trans (hb2.mono HB.out.size))
      replace km := Lib.hid (km.out.keep hb2)
      have B2 := Lib.hid (Below.refl w2.heap.size w2)
      clear hb2
      have HB0 := HB
      have km0 := km
      clear HB km
      go_wp2_with fail
      go_loopw [5] (fun x wr => ∃ i : Nat, x = .int .i64 i ∧ i ≤ k ∧ Below w2.heap.size w2 wr) (fun x _ => k - (intOf x).toNat)
      case atStart => exact ⟨0, rfl, Nat.zero_le _, B2.out⟩
      case round =>
        clear B2
        obtain ⟨i, rfl, hi, hB⟩ := hrel
        have B2 := Lib.hid hB
        clear hB
        by_cases hlt : i < k
        · have i0 : (0 : Int) ≤ (i : Int) := by omega
          have i1 : (i : Int) < (k : Int) := by omega
          have i2 : ((i : Int)).toNat = i := by omega
          obtain ⟨b, o, t, m, ct, ax, sd, l, e2, hb, hL, hx, hy, hz, hr, htn, hmc, hcm⟩ := R2.out.at hlt
          subst e2
          have T1 := Lib.hid (TRI.out _ (List.mem_of_getElem? hL))
          have A1 := Lib.hid (APT.out _ (List.mem_of_getElem? hL))
          have tl := TLN.out _ (List.mem_of_getElem? hL)
          dsimp only at T1 A1 tl
          rw [hr.1] at tl
          rw [← Nat.add_assoc] at hy hz
          have HX := Lib.hid hx
          have HZ := Lib.hid hz
          have HR := Lib.hid hr
          clear hL hx hy hz hr htn hcm
          go_wp2_with fail
          go_loopw [6] (fun x wv => ∃ j : Nat, x = .int .i64 j ∧ j ≤ m ∧ Below w2.heap.size w2 wv) (fun x _ => m - (intOf x).toNat)
          case atStart => exact ⟨0, rfl, Nat.zero_le _, B2.out⟩
          case round =>
            clear B2
            obtain ⟨j, rfl, hj, hB⟩ := hrel
            have B2 := Lib.hid hB
            clear hB
            have hz := keepc B2.out HZ.out
            by_cases hjt : j < m
            · have j0 : (0 : Int) ≤ (j : Int) := by omega
              have j1 : (j : Int) < (m : Int) := by omega
              have j2 : ((j : Int)).toNat = j := by omega
              obtain ⟨g2, o2, e4, hg2, hc2⟩ := HR.out.at hjt
              subst e4
              have HP := Lib.hid hc2
              clear hc2
              obtain ⟨T3, R3⟩ := T1.out (l.getD j 0) (by rw [List.getD_eq_getElem?_getD, List.getElem?_eq_getElem (show j < l.length by rw [HR.out.1]; exact hjt)]; exact List.getElem_mem _)
              have AP := Lib.hid (fun n (hn : n < j) => A1.out j n hn (show j < l.length by rw [HR.out.1]; exact hjt))
              have SJ := Lib.hid (fun W (h : Below w2.heap.size w2 W) => SH.out (l.getD j 0) ax W (HB0.out.trans (h.mono HB0.out.size)))
              rw [T3, show agE true = 0 from rfl] at SJ
              simp only [vF_yes] at SJ
              have RJ := Lib.hid (fun W => right_any (shX FV FC ax.toNat (l.getD j 0).toNat 0) (shY FV FC ax.toNat (l.getD j 0).toNat 0) (shX FV FC ax.toNat (l.getD j 0).toNat 1) (shY FV FC ax.toNat (l.getD j 0).toNat 1) (shX FV FC ax.toNat (l.getD j 0).toNat 2) (shY FV FC ax.toNat (l.getD j 0).toNat 2) W)
              have R3' := R3
              unfold shR at R3'
              rw [R3'] at RJ
              clear R3'
              obtain ⟨xj, hxj⟩ : ∃ xj, l.getD j 0 = xj := ⟨_, rfl⟩
              rw [hxj] at SJ RJ R3 AP
              have PJ := Lib.hid (fun W (h : Below w2.heap.size w2 W) => keepc h (by have z := HP.out j hjt; rw [hxj] at z; exact z))
              go_upto_region 12 with fail
              have BW := Lib.hid B2.out
              have km := Lib.hid (km0.out.keep BW.out)
              clear B2 hz
              refine wp_region_rel (by kernel_rfl) [42, 43, 44, 45, 46, 47, 48, 49, 50, 51, 52, 53, 54, 55, 56, 57, 58, 41, 7, 8] ?Fr2 ?hFr2
                (fun L u W => Below wr.heap.size wr W ∧ (L 0 = true → u 42 = .agg #[.slice pa1 n1 c1, .slice pa2 n2 c2, .slice pa3 n3 c3, .slice pa4 n4 c4]) ∧ (L 1 = true → u 43 = .slice (some ⟨b, o, none⟩) k d2) ∧ (L 2 = true → u 44 = .int .i64 (i : Int)) ∧ (L 3 = true → u 45 = .pointer (some ⟨b, o + i * 3, none⟩)) ∧ (L 4 = true → u 46 = .pointer (some ⟨b, o + i * 3 + 2, none⟩)) ∧ (L 5 = true → u 47 = .slice (some ⟨g2, o2, none⟩) m ct) ∧ (L 6 = true → u 48 = .int .i64 (j : Int)) ∧ (L 7 = true → u 49 = .pointer (some ⟨g2, o2 + j, none⟩)) ∧ (L 8 = true → u 50 = .int .i64 xj) ∧ (L 9 = true → u 51 = .slice (some ⟨b, o, none⟩) k d2) ∧ (L 10 = true → u 52 = .int .i64 (i : Int)) ∧ (L 11 = true → u 53 = .pointer (some ⟨b, o + i * 3, none⟩)) ∧ (L 12 = true → u 54 = .pointer (some ⟨b, o + i * 3, none⟩)) ∧ (L 13 = true → u 55 = .int .i64 ax) ∧ (L 14 = true → u 56 = .tuple #[.agg #[.int .i64 (shX FV FC ax.toNat xj.toNat 0), .int .i64 (shY FV FC ax.toNat xj.toNat 0), .int .i64 (shX FV FC ax.toNat xj.toNat 1), .int .i64 (shY FV FC ax.toNat xj.toNat 1), .int .i64 (shX FV FC ax.toNat xj.toNat 2), .int .i64 (shY FV FC ax.toNat xj.toNat 2)], .int .i64 0]) ∧ (L 15 = true → u 41 = .tuple #[.agg #[.int .i64 (shX FV FC ax.toNat xj.toNat 0), .int .i64 (shY FV FC ax.toNat xj.toNat 0), .int .i64 (shX FV FC ax.toNat xj.toNat 1), .int .i64 (shY FV FC ax.toNat xj.toNat 1), .int .i64 (shX FV FC ax.toNat xj.toNat 2), .int .i64 (shY FV FC ax.toNat xj.toNat 2)], .int .i64 0]) ∧ (L 16 = true → u 57 = .agg #[.int .i64 (shX FV FC ax.toNat xj.toNat 0), .int .i64 (shY FV FC ax.toNat xj.toNat 0), .int .i64 (shX FV FC ax.toNat xj.toNat 1), .int .i64 (shY FV FC ax.toNat xj.toNat 1), .int .i64 (shX FV FC ax.toNat xj.toNat 2), .int .i64 (shY FV FC ax.toNat xj.toNat 2)]) ∧ (L 17 = true → u 58 = .int .i64 0) ∧ (L 20 = true → u 8 = .int .i64 0) ∧ (L 18 = true → ∃ (g : Nat) (x18_0 x18_1 x18_2 x18_3 x18_4 x18_5 : Value), u 7 = .pointer (some ⟨g, 0, none⟩) ∧ wr.heap.size ≤ g ∧ Lok W g 41 #[x18_0, x18_1, x18_2, x18_3, x18_4, x18_5] ∧ (L 19 = true → x18_0 = .int .i64 (shX FV FC ax.toNat xj.toNat 0) ∧ x18_1 = .int .i64 (shY FV FC ax.toNat xj.toNat 0) ∧ x18_2 = .int .i64 (shX FV FC ax.toNat xj.toNat 1) ∧ x18_3 = .int .i64 (shY FV FC ax.toNat xj.toNat 1) ∧ x18_4 = .int .i64 (shX FV FC ax.toNat xj.toNat 2) ∧ x18_5 = .int .i64 (shY FV FC ax.toNat xj.toNat 2))) ∧ (L 19 = true → L 18 = true)) (by kernel_rfl) (by kernel_rfl) 21 rfl ?h0r2 ?stepr2 ?finr2
              case hFr2 => intro u; simp only [putAll, Act.put, List.setIfInBounds_toArray, List.set]; exact rfl
              case h0r2 => intro L u hL; exact ⟨(Below.refl _ _).drew, (fun h => by simp [hL] at h), (fun h => by simp [hL] at h), (fun h => by simp [hL] at h), (fun h => by simp [hL] at h), (fun h => by simp [hL] at h), (fun h => by simp [hL] at h), (fun h => by simp [hL] at h), (fun h => by simp [hL] at h), (fun h => by simp [hL] at h), (fun h => by simp [hL] at h), (fun h => by simp [hL] at h), (fun h => by simp [hL] at h), (fun h => by simp [hL] at h), (fun h => by simp [hL] at h), (fun h => by simp [hL] at h), (fun h => by simp [hL] at h), (fun h => by simp [hL] at h), (fun h => by simp [hL] at h), (fun h => by simp [hL] at h), (fun h => by simp [hL] at h), (fun h => by simp [hL] at h)⟩
              case stepr2 =>
                refine ops_all (ops_cons ?s0r2 (ops_cons ?s1r2 (ops_cons ?s2r2 (ops_cons ?s3r2 (ops_cons ?s4r2 (ops_cons ?s5r2 (ops_cons ?s6r2 (ops_cons ?s7r2 (ops_cons ?s8r2 (ops_cons ?s9r2 (ops_cons ?s10r2 (ops_cons ?s11r2 (ops_cons ?s12r2 (ops_cons ?s13r2 (ops_cons ?s14r2 (ops_cons ?s15r2 (ops_cons ?s16r2 (ops_cons ?s17r2 (ops_cons ?s18r2 (ops_cons ?s19r2 (ops_cons ?s20r2 (ops_nil))))))))))))))))))))))
                case s0r2 =>
                  rintro L u W ⟨hB, c0, c1, c2, c3, c4, c5, c6, c7, c8, c9, c10, c11, c12, c13, c14, c15, c16, c17, c20, c18, d19⟩ hf hd K hK
                  dsimp only at hK
                  have t0 := (km.out.keep hB).cell (i := 0) rfl
                  have t1 := (km.out.keep hB).cell (i := 1) rfl
                  have t2 := (km.out.keep hB).cell (i := 2) rfl
                  have t3 := (km.out.keep hB).cell (i := 3) rfl
                  clear hd
                  go_simp
                  refine hK _ _ ?_ (fun h => by cases h)
                  intro s hs
                  cases hs
                  exact ⟨hB, (fun _ => rfl), c1, c2, c3, c4, c5, c6, c7, c8, c9, c10, c11, c12, c13, c14, c15, c16, c17, c20, c18, d19⟩
                case s1r2 =>
                  rintro L u W ⟨hB, c0, c1, c2, c3, c4, c5, c6, c7, c8, c9, c10, c11, c12, c13, c14, c15, c16, c17, c20, c18, d19⟩ hf hd K hK
                  dsimp only at hK
                  clear hd
                  go_simp
                  refine hK _ _ ?_ (fun h => by cases h)
                  intro s hs
                  cases hs
                  exact ⟨hB, c0, (fun _ => rfl), c2, c3, c4, c5, c6, c7, c8, c9, c10, c11, c12, c13, c14, c15, c16, c17, c20, c18, d19⟩
                case s2r2 =>
                  rintro L u W ⟨hB, c0, c1, c2, c3, c4, c5, c6, c7, c8, c9, c10, c11, c12, c13, c14, c15, c16, c17, c20, c18, d19⟩ hf hd K hK
                  dsimp only at hK
                  clear hd
                  go_simp
                  refine hK _ _ ?_ (fun h => by cases h)
                  intro s hs
                  cases hs
                  exact ⟨hB, c0, c1, (fun _ => rfl), c3, c4, c5, c6, c7, c8, c9, c10, c11, c12, c13, c14, c15, c16, c17, c20, c18, d19⟩
                case s3r2 =>
                  rintro L u W ⟨hB, c0, c1, c2, c3, c4, c5, c6, c7, c8, c9, c10, c11, c12, c13, c14, c15, c16, c17, c20, c18, d19⟩ hf hd K hK
                  dsimp only at hK
                  have hd1 : L 1 = true := (by first | (refine hd ⟨1, .data⟩ ?_ rfl; simp; done) | (refine hd ⟨1, .guard⟩ ?_ rfl; simp; done) | (refine hd ⟨1, .phase⟩ ?_ rfl; simp; done) | (refine hd ⟨1, .chain⟩ ?_ rfl; simp; done))
                  have hd2 : L 2 = true := (by first | (refine hd ⟨2, .data⟩ ?_ rfl; simp; done) | (refine hd ⟨2, .guard⟩ ?_ rfl; simp; done) | (refine hd ⟨2, .phase⟩ ?_ rfl; simp; done) | (refine hd ⟨2, .chain⟩ ?_ rfl; simp; done))
                  have e1 := c1 hd1
                  rw [e1] at hK
                  have e2 := c2 hd2
                  rw [e2] at hK
                  clear hd1
                  clear hd2
                  clear hd
                  go_simp
                  refine hK _ _ ?_ (fun h => by cases h)
                  intro s hs
                  cases hs
                  exact ⟨hB, c0, c1, c2, (fun _ => rfl), c4, c5, c6, c7, c8, c9, c10, c11, c12, c13, c14, c15, c16, c17, c20, c18, d19⟩
                case s4r2 =>
                  rintro L u W ⟨hB, c0, c1, c2, c3, c4, c5, c6, c7, c8, c9, c10, c11, c12, c13, c14, c15, c16, c17, c20, c18, d19⟩ hf hd K hK
                  dsimp only at hK
                  have hd3 : L 3 = true := (by first | (refine hd ⟨3, .data⟩ ?_ rfl; simp; done) | (refine hd ⟨3, .guard⟩ ?_ rfl; simp; done) | (refine hd ⟨3, .phase⟩ ?_ rfl; simp; done) | (refine hd ⟨3, .chain⟩ ?_ rfl; simp; done))
                  have e3 := c3 hd3
                  rw [e3] at hK
                  clear hd3
                  clear hd
                  go_simp
                  refine hK _ _ ?_ (fun h => by cases h)
                  intro s hs
                  cases hs
                  exact ⟨hB, c0, c1, c2, c3, (fun _ => rfl), c5, c6, c7, c8, c9, c10, c11, c12, c13, c14, c15, c16, c17, c20, c18, d19⟩
                case s5r2 =>
                  rintro L u W ⟨hB, c0, c1, c2, c3, c4, c5, c6, c7, c8, c9, c10, c11, c12, c13, c14, c15, c16, c17, c20, c18, d19⟩ hf hd K hK
                  dsimp only at hK
                  have hd4 : L 4 = true := (by first | (refine hd ⟨4, .data⟩ ?_ rfl; simp; done) | (refine hd ⟨4, .guard⟩ ?_ rfl; simp; done) | (refine hd ⟨4, .phase⟩ ?_ rfl; simp; done) | (refine hd ⟨4, .chain⟩ ?_ rfl; simp; done))
                  have e4 := c4 hd4
                  rw [e4] at hK
                  have t0 := keepc (BW.out.trans (hB.mono BW.out.size)) HZ.out
                  clear hd4
                  clear hd
                  go_simp
                  refine hK _ _ ?_ (fun h => by cases h)
                  intro s hs
                  cases hs
                  exact ⟨hB, c0, c1, c2, c3, c4, (fun _ => rfl), c6, c7, c8, c9, c10, c11, c12, c13, c14, c15, c16, c17, c20, c18, d19⟩
                case s6r2 =>
                  rintro L u W ⟨hB, c0, c1, c2, c3, c4, c5, c6, c7, c8, c9, c10, c11, c12, c13, c14, c15, c16, c17, c20, c18, d19⟩ hf hd K hK
                  dsimp only at hK
                  clear hd
                  go_simp
                  refine hK _ _ ?_ (fun h => by cases h)
                  intro s hs
                  cases hs
                  exact ⟨hB, c0, c1, c2, c3, c4, c5, (fun _ => rfl), c7, c8, c9, c10, c11, c12, c13, c14, c15, c16, c17, c20, c18, d19⟩
                case s7r2 =>
                  rintro L u W ⟨hB, c0, c1, c2, c3, c4, c5, c6, c7, c8, c9, c10, c11, c12, c13, c14, c15, c16, c17, c20, c18, d19⟩ hf hd K hK
                  dsimp only at hK
                  have hd5 : L 5 = true := (by first | (refine hd ⟨5, .data⟩ ?_ rfl; simp; done) | (refine hd ⟨5, .guard⟩ ?_ rfl; simp; done) | (refine hd ⟨5, .phase⟩ ?_ rfl; simp; done) | (refine hd ⟨5, .chain⟩ ?_ rfl; simp; done))
                  have hd6 : L 6 = true := (by first | (refine hd ⟨6, .data⟩ ?_ rfl; simp; done) | (refine hd ⟨6, .guard⟩ ?_ rfl; simp; done) | (refine hd ⟨6, .phase⟩ ?_ rfl; simp; done) | (refine hd ⟨6, .chain⟩ ?_ rfl; simp; done))
                  have e5 := c5 hd5
                  rw [e5] at hK
                  have e6 := c6 hd6
                  rw [e6] at hK
                  clear hd5
                  clear hd6
                  clear hd
                  go_simp
                  refine hK _ _ ?_ (fun h => by cases h)
                  intro s hs
                  cases hs
                  exact ⟨hB, c0, c1, c2, c3, c4, c5, c6, (fun _ => rfl), c8, c9, c10, c11, c12, c13, c14, c15, c16, c17, c20, c18, d19⟩
                case s8r2 =>
                  rintro L u W ⟨hB, c0, c1, c2, c3, c4, c5, c6, c7, c8, c9, c10, c11, c12, c13, c14, c15, c16, c17, c20, c18, d19⟩ hf hd K hK
                  dsimp only at hK
                  have hd7 : L 7 = true := (by first | (refine hd ⟨7, .data⟩ ?_ rfl; simp; done) | (refine hd ⟨7, .guard⟩ ?_ rfl; simp; done) | (refine hd ⟨7, .phase⟩ ?_ rfl; simp; done) | (refine hd ⟨7, .chain⟩ ?_ rfl; simp; done))
                  have e7 := c7 hd7
                  rw [e7] at hK
                  have t0 := PJ.out _ (BW.out.trans (hB.mono BW.out.size))
                  clear hd7
                  clear hd
                  go_simp
                  refine hK _ _ ?_ (fun h => by cases h)
                  intro s hs
                  cases hs
                  exact ⟨hB, c0, c1, c2, c3, c4, c5, c6, c7, (fun _ => rfl), c9, c10, c11, c12, c13, c14, c15, c16, c17, c20, c18, d19⟩
                case s9r2 =>
                  rintro L u W ⟨hB, c0, c1, c2, c3, c4, c5, c6, c7, c8, c9, c10, c11, c12, c13, c14, c15, c16, c17, c20, c18, d19⟩ hf hd K hK
                  dsimp only at hK
                  clear hd
                  go_simp
                  refine hK _ _ ?_ (fun h => by cases h)
                  intro s hs
                  cases hs
                  exact ⟨hB, c0, c1, c2, c3, c4, c5, c6, c7, c8, (fun _ => rfl), c10, c11, c12, c13, c14, c15, c16, c17, c20, c18, d19⟩
                case s10r2 =>
                  rintro L u W ⟨hB, c0, c1, c2, c3, c4, c5, c6, c7, c8, c9, c10, c11, c12, c13, c14, c15, c16, c17, c20, c18, d19⟩ hf hd K hK
                  dsimp only at hK
                  clear hd
                  go_simp
                  refine hK _ _ ?_ (fun h => by cases h)
                  intro s hs
                  cases hs
                  exact ⟨hB, c0, c1, c2, c3, c4, c5, c6, c7, c8, c9, (fun _ => rfl), c11, c12, c13, c14, c15, c16, c17, c20, c18, d19⟩
                case s11r2 =>
                  rintro L u W ⟨hB, c0, c1, c2, c3, c4, c5, c6, c7, c8, c9, c10, c11, c12, c13, c14, c15, c16, c17, c20, c18, d19⟩ hf hd K hK
                  dsimp only at hK
                  have hd9 : L 9 = true := (by first | (refine hd ⟨9, .data⟩ ?_ rfl; simp; done) | (refine hd ⟨9, .guard⟩ ?_ rfl; simp; done) | (refine hd ⟨9, .phase⟩ ?_ rfl; simp; done) | (refine hd ⟨9, .chain⟩ ?_ rfl; simp; done))
                  have hd10 : L 10 = true := (by first | (refine hd ⟨10, .data⟩ ?_ rfl; simp; done) | (refine hd ⟨10, .guard⟩ ?_ rfl; simp; done) | (refine hd ⟨10, .phase⟩ ?_ rfl; simp; done) | (refine hd ⟨10, .chain⟩ ?_ rfl; simp; done))
                  have e9 := c9 hd9
                  rw [e9] at hK
                  have e10 := c10 hd10
                  rw [e10] at hK
                  clear hd9
                  clear hd10
                  clear hd
                  go_simp
                  refine hK _ _ ?_ (fun h => by cases h)
                  intro s hs
                  cases hs
                  exact ⟨hB, c0, c1, c2, c3, c4, c5, c6, c7, c8, c9, c10, (fun _ => rfl), c12, c13, c14, c15, c16, c17, c20, c18, d19⟩
                case s12r2 =>
                  rintro L u W ⟨hB, c0, c1, c2, c3, c4, c5, c6, c7, c8, c9, c10, c11, c12, c13, c14, c15, c16, c17, c20, c18, d19⟩ hf hd K hK
                  dsimp only at hK
                  have hd11 : L 11 = true := (by first | (refine hd ⟨11, .data⟩ ?_ rfl; simp; done) | (refine hd ⟨11, .guard⟩ ?_ rfl; simp; done) | (refine hd ⟨11, .phase⟩ ?_ rfl; simp; done) | (refine hd ⟨11, .chain⟩ ?_ rfl; simp; done))
                  have e11 := c11 hd11
                  rw [e11] at hK
                  clear hd11
                  clear hd
                  go_simp
                  refine hK _ _ ?_ (fun h => by cases h)
                  intro s hs
                  cases hs
                  exact ⟨hB, c0, c1, c2, c3, c4, c5, c6, c7, c8, c9, c10, c11, (fun _ => rfl), c13, c14, c15, c16, c17, c20, c18, d19⟩
                case s13r2 =>
                  rintro L u W ⟨hB, c0, c1, c2, c3, c4, c5, c6, c7, c8, c9, c10, c11, c12, c13, c14, c15, c16, c17, c20, c18, d19⟩ hf hd K hK
                  dsimp only at hK
                  have hd12 : L 12 = true := (by first | (refine hd ⟨12, .data⟩ ?_ rfl; simp; done) | (refine hd ⟨12, .guard⟩ ?_ rfl; simp; done) | (refine hd ⟨12, .phase⟩ ?_ rfl; simp; done) | (refine hd ⟨12, .chain⟩ ?_ rfl; simp; done))
                  have e12 := c12 hd12
                  rw [e12] at hK
                  have t0 := keepc (BW.out.trans (hB.mono BW.out.size)) HX.out
                  clear hd12
                  clear hd
                  go_simp
                  refine hK _ _ ?_ (fun h => by cases h)
                  intro s hs
                  cases hs
                  exact ⟨hB, c0, c1, c2, c3, c4, c5, c6, c7, c8, c9, c10, c11, c12, (fun _ => rfl), c14, c15, c16, c17, c20, c18, d19⟩
                case s14r2 =>
                  rintro L u W ⟨hB, c0, c1, c2, c3, c4, c5, c6, c7, c8, c9, c10, c11, c12, c13, c14, c15, c16, c17, c20, c18, d19⟩ hf hd K hK
                  dsimp only at hK
                  have hd0 : L 0 = true := (by first | (refine hd ⟨0, .data⟩ ?_ rfl; simp; done) | (refine hd ⟨0, .guard⟩ ?_ rfl; simp; done) | (refine hd ⟨0, .phase⟩ ?_ rfl; simp; done) | (refine hd ⟨0, .chain⟩ ?_ rfl; simp; done))
                  have hd8 : L 8 = true := (by first | (refine hd ⟨8, .data⟩ ?_ rfl; simp; done) | (refine hd ⟨8, .guard⟩ ?_ rfl; simp; done) | (refine hd ⟨8, .phase⟩ ?_ rfl; simp; done) | (refine hd ⟨8, .chain⟩ ?_ rfl; simp; done))
                  have hd13 : L 13 = true := (by first | (refine hd ⟨13, .data⟩ ?_ rfl; simp; done) | (refine hd ⟨13, .guard⟩ ?_ rfl; simp; done) | (refine hd ⟨13, .phase⟩ ?_ rfl; simp; done) | (refine hd ⟨13, .chain⟩ ?_ rfl; simp; done))
                  have e0 := c0 hd0
                  rw [e0] at hK
                  have e8 := c8 hd8
                  rw [e8] at hK
                  have e13 := c13 hd13
                  rw [e13] at hK
                  clear hd0
                  clear hd8
                  clear hd13
                  clear hd
                  go_simp
                  go_wp2_with (go_at_call 13; ((with_reducible refine (SJ.out _ (BW.out.trans (hB.mono BW.out.size))).mono ?_); rintro e w5 ⟨rfl, hb⟩))
                  refine hK _ _ ?_ (fun h => by cases h)
                  intro s hs
                  cases hs
                  exact ⟨hB.trans (hb.mono hB.size), c0, c1, c2, c3, c4, c5, c6, c7, c8, c9, c10, c11, c12, c13, (fun _ => rfl), c15, c16, c17, c20, (fun h => by obtain ⟨g, x18_0, x18_1, x18_2, x18_3, x18_4, x18_5, k1, k2, k3, k4⟩ := c18 h; exact ⟨g, x18_0, x18_1, x18_2, x18_3, x18_4, x18_5, k1, k2, k3.keep hb, k4⟩), d19⟩
                case s15r2 =>
                  rintro L u W ⟨hB, c0, c1, c2, c3, c4, c5, c6, c7, c8, c9, c10, c11, c12, c13, c14, c15, c16, c17, c20, c18, d19⟩ hf hd K hK
                  dsimp only at hK
                  have hd14 : L 14 = true := (by first | (refine hd ⟨14, .data⟩ ?_ rfl; simp; done) | (refine hd ⟨14, .guard⟩ ?_ rfl; simp; done) | (refine hd ⟨14, .phase⟩ ?_ rfl; simp; done) | (refine hd ⟨14, .chain⟩ ?_ rfl; simp; done))
                  have e14 := c14 hd14
                  rw [e14] at hK
                  clear hd14
                  clear hd
                  go_simp
                  refine hK _ _ ?_ (fun h => by cases h)
                  intro s hs
                  cases hs
                  exact ⟨hB, c0, c1, c2, c3, c4, c5, c6, c7, c8, c9, c10, c11, c12, c13, c14, (fun _ => rfl), c16, c17, c20, c18, d19⟩
                case s16r2 =>
                  rintro L u W ⟨hB, c0, c1, c2, c3, c4, c5, c6, c7, c8, c9, c10, c11, c12, c13, c14, c15, c16, c17, c20, c18, d19⟩ hf hd K hK
                  dsimp only at hK
                  have hd15 : L 15 = true := (by first | (refine hd ⟨15, .data⟩ ?_ rfl; simp; done) | (refine hd ⟨15, .guard⟩ ?_ rfl; simp; done) | (refine hd ⟨15, .phase⟩ ?_ rfl; simp; done) | (refine hd ⟨15, .chain⟩ ?_ rfl; simp; done))
                  have e15 := c15 hd15
                  rw [e15] at hK
                  clear hd15
                  clear hd
                  go_simp
                  refine hK _ _ ?_ (fun h => by cases h)
                  intro s hs
                  cases hs
                  exact ⟨hB, c0, c1, c2, c3, c4, c5, c6, c7, c8, c9, c10, c11, c12, c13, c14, c15, (fun _ => rfl), c17, c20, c18, d19⟩
                case s17r2 =>
                  rintro L u W ⟨hB, c0, c1, c2, c3, c4, c5, c6, c7, c8, c9, c10, c11, c12, c13, c14, c15, c16, c17, c20, c18, d19⟩ hf hd K hK
                  dsimp only at hK
                  have hd15 : L 15 = true := (by first | (refine hd ⟨15, .data⟩ ?_ rfl; simp; done) | (refine hd ⟨15, .guard⟩ ?_ rfl; simp; done) | (refine hd ⟨15, .phase⟩ ?_ rfl; simp; done) | (refine hd ⟨15, .chain⟩ ?_ rfl; simp; done))
                  have e15 := c15 hd15
                  rw [e15] at hK
                  clear hd15
                  clear hd
                  go_simp
                  refine hK _ _ ?_ (fun h => by cases h)
                  intro s hs
                  cases hs
                  exact ⟨hB, c0, c1, c2, c3, c4, c5, c6, c7, c8, c9, c10, c11, c12, c13, c14, c15, c16, (fun _ => rfl), c20, c18, d19⟩
                case s18r2 =>
                  rintro L u W ⟨hB, c0, c1, c2, c3, c4, c5, c6, c7, c8, c9, c10, c11, c12, c13, c14, c15, c16, c17, c20, c18, d19⟩ hf hd K hK
                  dsimp only at hK
                  go_simp
                  have hb : Below W.heap.size W (W.alloc (.cells #[.int .i64 0, .int .i64 0, .int .i64 0, .int .i64 0, .int .i64 0, .int .i64 0] 41)) := (Below.refl _ W).alloc (Nat.le_refl _) _
                  refine hK _ _ ?_ (fun h => by cases h)
                  intro s hs
                  cases hs
                  exact ⟨hB.trans (hb.mono hB.size), c0, c1, c2, c3, c4, c5, c6, c7, c8, c9, c10, c11, c12, c13, c14, c15, c16, c17, c20, (fun _ => ⟨_, _, _, _, _, _, _, rfl, hB.size, Lok.new _ _ _, fun h => absurd (d19 h) (by rw [hf]; decide)⟩), (fun _ => rfl)⟩
                case s19r2 =>
                  rintro L u W ⟨hB, c0, c1, c2, c3, c4, c5, c6, c7, c8, c9, c10, c11, c12, c13, c14, c15, c16, c17, c20, c18, d19⟩ hf hd K hK
                  dsimp only at hK
                  have hd18 : L 18 = true := hd ⟨18, .data⟩ (by simp) rfl
                  have hd16 : L 16 = true := (by first | (refine hd ⟨16, .data⟩ ?_ rfl; simp; done) | (refine hd ⟨16, .guard⟩ ?_ rfl; simp; done) | (refine hd ⟨16, .phase⟩ ?_ rfl; simp; done) | (refine hd ⟨16, .chain⟩ ?_ rfl; simp; done))
                  obtain ⟨g, x18_0, x18_1, x18_2, x18_3, x18_4, x18_5, e18, k2, k3, k4⟩ := c18 hd18
                  rw [e18] at hK
                  have e16 := c16 hd16
                  rw [e16] at hK
                  have t0 := k3.cell (i := 0) rfl
                  have f0 := k3.frozen 0
                  have t1 := k3.cell (i := 1) rfl
                  have f1 := k3.frozen 1
                  have t2 := k3.cell (i := 2) rfl
                  have f2 := k3.frozen 2
                  have t3 := k3.cell (i := 3) rfl
                  have f3 := k3.frozen 3
                  have t4 := k3.cell (i := 4) rfl
                  have f4 := k3.frozen 4
                  have t5 := k3.cell (i := 5) rfl
                  have f5 := k3.frozen 5
                  have HH := Lib.hid (And.intro trivial trivial)
                  clear hd
                  have hd18' := Lib.hid hd18
                  clear hd18
                  have hd16' := Lib.hid hd16
                  clear hd16
                  go_simp
                  have hd18 := hd18'.out
                  have hd16 := hd16'.out
                  have hlok := (((((k3.set (i := 0) (v := .int .i64 (shX FV FC ax.toNat xj.toNat 0))).set (i := 1) (v := .int .i64 (shY FV FC ax.toNat xj.toNat 0))).set (i := 2) (v := .int .i64 (shX FV FC ax.toNat xj.toNat 1))).set (i := 3) (v := .int .i64 (shY FV FC ax.toNat xj.toNat 1))).set (i := 4) (v := .int .i64 (shX FV FC ax.toNat xj.toNat 2))).set (i := 5) (v := .int .i64 (shY FV FC ax.toNat xj.toNat 2))
                  refine hK undef _ (fun s h => by cases h) (fun _ => ?_)
                  exact ⟨(((((hB.setCell k2 _).setCell k2 _).setCell k2 _).setCell k2 _).setCell k2 _).setCell k2 _, c0, c1, c2, c3, c4, c5, c6, c7, c8, c9, c10, c11, c12, c13, c14, c15, (fun _ => rfl), c17, c20, (fun _ => ⟨g, _, _, _, _, _, _, rfl, k2, hlok, fun _ => ⟨rfl, rfl, rfl, rfl, rfl, rfl⟩⟩), (fun _ => hd18)⟩
                case s20r2 =>
                  rintro L u W ⟨hB, c0, c1, c2, c3, c4, c5, c6, c7, c8, c9, c10, c11, c12, c13, c14, c15, c16, c17, c20, c18, d19⟩ hf hd K hK
                  dsimp only at hK
                  have hd17 : L 17 = true := (by first | (refine hd ⟨17, .data⟩ ?_ rfl; simp; done) | (refine hd ⟨17, .guard⟩ ?_ rfl; simp; done) | (refine hd ⟨17, .phase⟩ ?_ rfl; simp; done) | (refine hd ⟨17, .chain⟩ ?_ rfl; simp; done))
                  have e17 := c17 hd17
                  rw [e17] at hK
                  clear hd17
                  clear hd
                  go_simp
                  refine hK _ _ ?_ (fun h => by cases h)
                  intro s hs
                  cases hs
                  exact ⟨hB, c0, c1, c2, c3, c4, c5, c6, c7, c8, c9, c10, c11, c12, c13, c14, c15, c16, c17, (fun _ => rfl), c18, d19⟩
              case finr2 =>
                rintro L u W hL ⟨hB, c0, c1, c2, c3, c4, c5, c6, c7, c8, c9, c10, c11, c12, c13, c14, c15, c16, c17, c20, c18, d19⟩
                have e0 := c0 (hL 0 (by decide))
                have e1 := c1 (hL 1 (by decide))
                have e2 := c2 (hL 2 (by decide))
                have e3 := c3 (hL 3 (by decide))
                have e4 := c4 (hL 4 (by decide))
                have e5 := c5 (hL 5 (by decide))
                have e6 := c6 (hL 6 (by decide))
                have e7 := c7 (hL 7 (by decide))
                have e8 := c8 (hL 8 (by decide))
                have e9 := c9 (hL 9 (by decide))
                have e10 := c10 (hL 10 (by decide))
                have e11 := c11 (hL 11 (by decide))
                have e12 := c12 (hL 12 (by decide))
                have e13 := c13 (hL 13 (by decide))
                have e14 := c14 (hL 14 (by decide))
                have e15 := c15 (hL 15 (by decide))
                have e16 := c16 (hL 16 (by decide))
                have e17 := c17 (hL 17 (by decide))
                have e20 := c20 (hL 20 (by decide))
                obtain ⟨g18, x18_0, x18_1, x18_2, x18_3, x18_4, x18_5, e18, hg18, hlok18, hst18⟩ := c18 (hL 18 (by decide))
                obtain ⟨rfl, rfl, rfl, rfl, rfl, rfl⟩ := hst18 (hL 19 (by decide))
                clear hst18
                clear hL c0 c1 c2 c3 c4 c5 c6 c7 c8 c9 c10 c11 c12 c13 c14 c15 c16 c17 c20 c18 d19
                try simp only [e0, e1, e2, e3, e4, e5, e6, e7, e8, e9, e10, e11, e12, e13, e14, e15, e16, e17, e20, e18]
                clear e0 e1 e2 e3 e4 e5 e6 e7 e8 e9 e10 e11 e12 e13 e14 e15 e16 e17 e20 e18
                have kj := Lib.hid hlok18
                have BX := Lib.hid (BW.out.trans (hB.mono BW.out.size))
                clear hlok18 hB km BW
                have p0 := kj.out.cell (i := 0) rfl
                have p1 := kj.out.cell (i := 1) rfl
                have p2 := kj.out.cell (i := 2) rfl
                have p3 := kj.out.cell (i := 3) rfl
                have p4 := kj.out.cell (i := 4) rfl
                have p5 := kj.out.cell (i := 5) rfl
                go_wp2_with fail
                clear p0 p1 p2 p3 p4 p5
                ((with_reducible refine (RJ.out _).mono ?_); rintro e w7 ⟨rfl, hb7⟩)
                replace BX := Lib.hid (BX.out.trans (hb7.mono BX.out.size))
                replace kj := Lib.hid (kj.out.keep hb7)
                clear hb7 RJ
                go_wp2_with fail
                go_loopw [9] (fun x wv => ∃ n : Nat, x = .int .i64 n ∧ n ≤ j ∧ Below w2.heap.size w2 wv ∧ Lok wv g18 41 #[.int .i64 (shX FV FC ax.toNat xj.toNat 0), .int .i64 (shY FV FC ax.toNat xj.toNat 0), .int .i64 (shX FV FC ax.toNat xj.toNat 1), .int .i64 (shY FV FC ax.toNat xj.toNat 1), .int .i64 (shX FV FC ax.toNat xj.toNat 2), .int .i64 (shY FV FC ax.toNat xj.toNat 2)]) (fun x _ => j - (intOf x).toNat)
                case atStart => exact ⟨0, rfl, Nat.zero_le _, BX.out, kj.out⟩
                case round =>
                  clear BX kj
                  obtain ⟨n, rfl, hn, hB, hJ⟩ := hrel
                  have BW := Lib.hid hB
                  have kj := Lib.hid hJ
                  clear hB hJ
                  have km := Lib.hid (km0.out.keep BW.out)
                  by_cases hnt : n < j
                  · have n0 : (0 : Int) ≤ (n : Int) := by omega
                    have n1' : (n : Int) < (m : Int) := by omega
                    have n2' : ((n : Int)).toNat = n := by omega
                    obtain ⟨T4, R4⟩ := T1.out (l.getD n 0) (by rw [List.getD_eq_getElem?_getD, List.getElem?_eq_getElem (show n < l.length by rw [HR.out.1]; omega)]; exact List.getElem_mem _)
                    have SN := Lib.hid (fun W (h : Below w2.heap.size w2 W) => SH.out (l.getD n 0) ax W (HB0.out.trans (h.mono HB0.out.size)))
                    rw [T4, show agE true = 0 from rfl] at SN
                    simp only [vF_yes] at SN
                    have A4 := AP.out n hnt
                    have OV := Lib.hid (fun W => overlap_any (shX FV FC ax.toNat xj.toNat 0) (shY FV FC ax.toNat xj.toNat 0) (shX FV FC ax.toNat xj.toNat 1) (shY FV FC ax.toNat xj.toNat 1) (shX FV FC ax.toNat xj.toNat 2) (shY FV FC ax.toNat xj.toNat 2) (shX FV FC ax.toNat (l.getD n 0).toNat 0) (shY FV FC ax.toNat (l.getD n 0).toNat 0) (shX FV FC ax.toNat (l.getD n 0).toNat 1) (shY FV FC ax.toNat (l.getD n 0).toNat 1) (shX FV FC ax.toNat (l.getD n 0).toNat 2) (shY FV FC ax.toNat (l.getD n 0).toNat 2) true (by unfold shR at R3 R4; rw [R3, R4]; rfl) W)
                    unfold shM at A4
                    rw [A4, show mE true = 0 from rfl] at OV
                    clear A4 T4 R4
                    have PN := Lib.hid (fun W (h : Below w2.heap.size w2 W) => keepc h (HP.out n (by omega)))
                    generalize l.getD n 0 = xn at *
                    go_upto_region 18 with fail
                    refine wp_region_rel (by kernel_rfl) [72, 73, 74, 75, 76, 77, 78, 79, 80, 81, 82, 83, 84, 85, 86, 87, 88, 71, 10, 11] ?Fr1 ?hFr1
                      (fun L u W => Below wr.heap.size wr W ∧ (L 0 = true → u 72 = .agg #[.slice pa1 n1 c1, .slice pa2 n2 c2, .slice pa3 n3 c3, .slice pa4 n4 c4]) ∧ (L 1 = true → u 73 = .slice (some ⟨b, o, none⟩) k d2) ∧ (L 2 = true → u 74 = .int .i64 (i : Int)) ∧ (L 3 = true → u 75 = .pointer (some ⟨b, o + i * 3, none⟩)) ∧ (L 4 = true → u 76 = .pointer (some ⟨b, o + i * 3 + 2, none⟩)) ∧ (L 5 = true → u 77 = .slice (some ⟨g2, o2, none⟩) m ct) ∧ (L 6 = true → u 78 = .int .i64 (n : Int)) ∧ (L 7 = true → u 79 = .pointer (some ⟨g2, o2 + n, none⟩)) ∧ (L 8 = true → u 80 = .int .i64 xn) ∧ (L 9 = true → u 81 = .slice (some ⟨b, o, none⟩) k d2) ∧ (L 10 = true → u 82 = .int .i64 (i : Int)) ∧ (L 11 = true → u 83 = .pointer (some ⟨b, o + i * 3, none⟩)) ∧ (L 12 = true → u 84 = .pointer (some ⟨b, o + i * 3, none⟩)) ∧ (L 13 = true → u 85 = .int .i64 ax) ∧ (L 14 = true → u 86 = .tuple #[.agg #[.int .i64 (shX FV FC ax.toNat xn.toNat 0), .int .i64 (shY FV FC ax.toNat xn.toNat 0), .int .i64 (shX FV FC ax.toNat xn.toNat 1), .int .i64 (shY FV FC ax.toNat xn.toNat 1), .int .i64 (shX FV FC ax.toNat xn.toNat 2), .int .i64 (shY FV FC ax.toNat xn.toNat 2)], .int .i64 0]) ∧ (L 15 = true → u 71 = .tuple #[.agg #[.int .i64 (shX FV FC ax.toNat xn.toNat 0), .int .i64 (shY FV FC ax.toNat xn.toNat 0), .int .i64 (shX FV FC ax.toNat xn.toNat 1), .int .i64 (shY FV FC ax.toNat xn.toNat 1), .int .i64 (shX FV FC ax.toNat xn.toNat 2), .int .i64 (shY FV FC ax.toNat xn.toNat 2)], .int .i64 0]) ∧ (L 16 = true → u 87 = .agg #[.int .i64 (shX FV FC ax.toNat xn.toNat 0), .int .i64 (shY FV FC ax.toNat xn.toNat 0), .int .i64 (shX FV FC ax.toNat xn.toNat 1), .int .i64 (shY FV FC ax.toNat xn.toNat 1), .int .i64 (shX FV FC ax.toNat xn.toNat 2), .int .i64 (shY FV FC ax.toNat xn.toNat 2)]) ∧ (L 17 = true → u 88 = .int .i64 0) ∧ (L 20 = true → u 11 = .int .i64 0) ∧ (L 18 = true → ∃ (g : Nat) (x18_0 x18_1 x18_2 x18_3 x18_4 x18_5 : Value), u 10 = .pointer (some ⟨g, 0, none⟩) ∧ wr.heap.size ≤ g ∧ Lok W g 41 #[x18_0, x18_1, x18_2, x18_3, x18_4, x18_5] ∧ (L 19 = true → x18_0 = .int .i64 (shX FV FC ax.toNat xn.toNat 0) ∧ x18_1 = .int .i64 (shY FV FC ax.toNat xn.toNat 0) ∧ x18_2 = .int .i64 (shX FV FC ax.toNat xn.toNat 1) ∧ x18_3 = .int .i64 (shY FV FC ax.toNat xn.toNat 1) ∧ x18_4 = .int .i64 (shX FV FC ax.toNat xn.toNat 2) ∧ x18_5 = .int .i64 (shY FV FC ax.toNat xn.toNat 2))) ∧ (L 19 = true → L 18 = true)) (by kernel_rfl) (by kernel_rfl) 21 rfl ?h0r1 ?stepr1 ?finr1
                    case hFr1 => intro u; simp only [putAll, Act.put, List.setIfInBounds_toArray, List.set]; exact rfl
                    case h0r1 => intro L u hL; exact ⟨(Below.refl _ _).drew, (fun h => by simp [hL] at h), (fun h => by simp [hL] at h), (fun h => by simp [hL] at h), (fun h => by simp [hL] at h), (fun h => by simp [hL] at h), (fun h => by simp [hL] at h), (fun h => by simp [hL] at h), (fun h => by simp [hL] at h), (fun h => by simp [hL] at h), (fun h => by simp [hL] at h), (fun h => by simp [hL] at h), (fun h => by simp [hL] at h), (fun h => by simp [hL] at h), (fun h => by simp [hL] at h), (fun h => by simp [hL] at h), (fun h => by simp [hL] at h), (fun h => by simp [hL] at h), (fun h => by simp [hL] at h), (fun h => by simp [hL] at h), (fun h => by simp [hL] at h), (fun h => by simp [hL] at h)⟩
                    case stepr1 =>
                      refine ops_all (ops_cons ?s0r1 (ops_cons ?s1r1 (ops_cons ?s2r1 (ops_cons ?s3r1 (ops_cons ?s4r1 (ops_cons ?s5r1 (ops_cons ?s6r1 (ops_cons ?s7r1 (ops_cons ?s8r1 (ops_cons ?s9r1 (ops_cons ?s10r1 (ops_cons ?s11r1 (ops_cons ?s12r1 (ops_cons ?s13r1 (ops_cons ?s14r1 (ops_cons ?s15r1 (ops_cons ?s16r1 (ops_cons ?s17r1 (ops_cons ?s18r1 (ops_cons ?s19r1 (ops_cons ?s20r1 (ops_nil))))))))))))))))))))))
                      case s0r1 =>
                        rintro L u W ⟨hB, c0, c1, c2, c3, c4, c5, c6, c7, c8, c9, c10, c11, c12, c13, c14, c15, c16, c17, c20, c18, d19⟩ hf hd K hK
                        dsimp only at hK
                        have t0 := (km.out.keep hB).cell (i := 0) rfl
                        have t1 := (km.out.keep hB).cell (i := 1) rfl
                        have t2 := (km.out.keep hB).cell (i := 2) rfl
                        have t3 := (km.out.keep hB).cell (i := 3) rfl
                        clear hd
                        go_simp
                        refine hK _ _ ?_ (fun h => by cases h)
                        intro s hs
                        cases hs
                        exact ⟨hB, (fun _ => rfl), c1, c2, c3, c4, c5, c6, c7, c8, c9, c10, c11, c12, c13, c14, c15, c16, c17, c20, c18, d19⟩
                      case s1r1 =>
                        rintro L u W ⟨hB, c0, c1, c2, c3, c4, c5, c6, c7, c8, c9, c10, c11, c12, c13, c14, c15, c16, c17, c20, c18, d19⟩ hf hd K hK
                        dsimp only at hK
                        clear hd
                        go_simp
                        refine hK _ _ ?_ (fun h => by cases h)
                        intro s hs
                        cases hs
                        exact ⟨hB, c0, (fun _ => rfl), c2, c3, c4, c5, c6, c7, c8, c9, c10, c11, c12, c13, c14, c15, c16, c17, c20, c18, d19⟩
                      case s2r1 =>
                        rintro L u W ⟨hB, c0, c1, c2, c3, c4, c5, c6, c7, c8, c9, c10, c11, c12, c13, c14, c15, c16, c17, c20, c18, d19⟩ hf hd K hK
                        dsimp only at hK
                        clear hd
                        go_simp
                        refine hK _ _ ?_ (fun h => by cases h)
                        intro s hs
                        cases hs
                        exact ⟨hB, c0, c1, (fun _ => rfl), c3, c4, c5, c6, c7, c8, c9, c10, c11, c12, c13, c14, c15, c16, c17, c20, c18, d19⟩
                      case s3r1 =>
                        rintro L u W ⟨hB, c0, c1, c2, c3, c4, c5, c6, c7, c8, c9, c10, c11, c12, c13, c14, c15, c16, c17, c20, c18, d19⟩ hf hd K hK
                        dsimp only at hK
                        have hd1 : L 1 = true := (by first | (refine hd ⟨1, .data⟩ ?_ rfl; simp; done) | (refine hd ⟨1, .guard⟩ ?_ rfl; simp; done) | (refine hd ⟨1, .phase⟩ ?_ rfl; simp; done) | (refine hd ⟨1, .chain⟩ ?_ rfl; simp; done))
                        have hd2 : L 2 = true := (by first | (refine hd ⟨2, .data⟩ ?_ rfl; simp; done) | (refine hd ⟨2, .guard⟩ ?_ rfl; simp; done) | (refine hd ⟨2, .phase⟩ ?_ rfl; simp; done) | (refine hd ⟨2, .chain⟩ ?_ rfl; simp; done))
                        have e1 := c1 hd1
                        rw [e1] at hK
                        have e2 := c2 hd2
                        rw [e2] at hK
                        clear hd1
                        clear hd2
                        clear hd
                        go_simp
                        refine hK _ _ ?_ (fun h => by cases h)
                        intro s hs
                        cases hs
                        exact ⟨hB, c0, c1, c2, (fun _ => rfl), c4, c5, c6, c7, c8, c9, c10, c11, c12, c13, c14, c15, c16, c17, c20, c18, d19⟩
                      case s4r1 =>
                        rintro L u W ⟨hB, c0, c1, c2, c3, c4, c5, c6, c7, c8, c9, c10, c11, c12, c13, c14, c15, c16, c17, c20, c18, d19⟩ hf hd K hK
                        dsimp only at hK
                        have hd3 : L 3 = true := (by first | (refine hd ⟨3, .data⟩ ?_ rfl; simp; done) | (refine hd ⟨3, .guard⟩ ?_ rfl; simp; done) | (refine hd ⟨3, .phase⟩ ?_ rfl; simp; done) | (refine hd ⟨3, .chain⟩ ?_ rfl; simp; done))
                        have e3 := c3 hd3
                        rw [e3] at hK
                        clear hd3
                        clear hd
                        go_simp
                        refine hK _ _ ?_ (fun h => by cases h)
                        intro s hs
                        cases hs
                        exact ⟨hB, c0, c1, c2, c3, (fun _ => rfl), c5, c6, c7, c8, c9, c10, c11, c12, c13, c14, c15, c16, c17, c20, c18, d19⟩
                      case s5r1 =>
                        rintro L u W ⟨hB, c0, c1, c2, c3, c4, c5, c6, c7, c8, c9, c10, c11, c12, c13, c14, c15, c16, c17, c20, c18, d19⟩ hf hd K hK
                        dsimp only at hK
                        have hd4 : L 4 = true := (by first | (refine hd ⟨4, .data⟩ ?_ rfl; simp; done) | (refine hd ⟨4, .guard⟩ ?_ rfl; simp; done) | (refine hd ⟨4, .phase⟩ ?_ rfl; simp; done) | (refine hd ⟨4, .chain⟩ ?_ rfl; simp; done))
                        have e4 := c4 hd4
                        rw [e4] at hK
                        have t0 := keepc (BW.out.trans (hB.mono BW.out.size)) HZ.out
                        clear hd4
                        clear hd
                        go_simp
                        refine hK _ _ ?_ (fun h => by cases h)
                        intro s hs
                        cases hs
                        exact ⟨hB, c0, c1, c2, c3, c4, (fun _ => rfl), c6, c7, c8, c9, c10, c11, c12, c13, c14, c15, c16, c17, c20, c18, d19⟩
                      case s6r1 =>
                        rintro L u W ⟨hB, c0, c1, c2, c3, c4, c5, c6, c7, c8, c9, c10, c11, c12, c13, c14, c15, c16, c17, c20, c18, d19⟩ hf hd K hK
                        dsimp only at hK
                        clear hd
                        go_simp
                        refine hK _ _ ?_ (fun h => by cases h)
                        intro s hs
                        cases hs
                        exact ⟨hB, c0, c1, c2, c3, c4, c5, (fun _ => rfl), c7, c8, c9, c10, c11, c12, c13, c14, c15, c16, c17, c20, c18, d19⟩
                      case s7r1 =>
                        rintro L u W ⟨hB, c0, c1, c2, c3, c4, c5, c6, c7, c8, c9, c10, c11, c12, c13, c14, c15, c16, c17, c20, c18, d19⟩ hf hd K hK
                        dsimp only at hK
                        have hd5 : L 5 = true := (by first | (refine hd ⟨5, .data⟩ ?_ rfl; simp; done) | (refine hd ⟨5, .guard⟩ ?_ rfl; simp; done) | (refine hd ⟨5, .phase⟩ ?_ rfl; simp; done) | (refine hd ⟨5, .chain⟩ ?_ rfl; simp; done))
                        have hd6 : L 6 = true := (by first | (refine hd ⟨6, .data⟩ ?_ rfl; simp; done) | (refine hd ⟨6, .guard⟩ ?_ rfl; simp; done) | (refine hd ⟨6, .phase⟩ ?_ rfl; simp; done) | (refine hd ⟨6, .chain⟩ ?_ rfl; simp; done))
                        have e5 := c5 hd5
                        rw [e5] at hK
                        have e6 := c6 hd6
                        rw [e6] at hK
                        clear hd5
                        clear hd6
                        clear hd
                        go_simp
                        refine hK _ _ ?_ (fun h => by cases h)
                        intro s hs
                        cases hs
                        exact ⟨hB, c0, c1, c2, c3, c4, c5, c6, (fun _ => rfl), c8, c9, c10, c11, c12, c13, c14, c15, c16, c17, c20, c18, d19⟩
                      case s8r1 =>
                        rintro L u W ⟨hB, c0, c1, c2, c3, c4, c5, c6, c7, c8, c9, c10, c11, c12, c13, c14, c15, c16, c17, c20, c18, d19⟩ hf hd K hK
                        dsimp only at hK
                        have hd7 : L 7 = true := (by first | (refine hd ⟨7, .data⟩ ?_ rfl; simp; done) | (refine hd ⟨7, .guard⟩ ?_ rfl; simp; done) | (refine hd ⟨7, .phase⟩ ?_ rfl; simp; done) | (refine hd ⟨7, .chain⟩ ?_ rfl; simp; done))
                        have e7 := c7 hd7
                        rw [e7] at hK
                        have t0 := PN.out _ (BW.out.trans (hB.mono BW.out.size))
                        clear hd7
                        clear hd
                        go_simp
                        refine hK _ _ ?_ (fun h => by cases h)
                        intro s hs
                        cases hs
                        exact ⟨hB, c0, c1, c2, c3, c4, c5, c6, c7, (fun _ => rfl), c9, c10, c11, c12, c13, c14, c15, c16, c17, c20, c18, d19⟩
                      case s9r1 =>
                        rintro L u W ⟨hB, c0, c1, c2, c3, c4, c5, c6, c7, c8, c9, c10, c11, c12, c13, c14, c15, c16, c17, c20, c18, d19⟩ hf hd K hK
                        dsimp only at hK
                        clear hd
                        go_simp
                        refine hK _ _ ?_ (fun h => by cases h)
                        intro s hs
                        cases hs
                        exact ⟨hB, c0, c1, c2, c3, c4, c5, c6, c7, c8, (fun _ => rfl), c10, c11, c12, c13, c14, c15, c16, c17, c20, c18, d19⟩
                      case s10r1 =>
                        rintro L u W ⟨hB, c0, c1, c2, c3, c4, c5, c6, c7, c8, c9, c10, c11, c12, c13, c14, c15, c16, c17, c20, c18, d19⟩ hf hd K hK
                        dsimp only at hK
                        clear hd
                        go_simp
                        refine hK _ _ ?_ (fun h => by cases h)
                        intro s hs
                        cases hs
                        exact ⟨hB, c0, c1, c2, c3, c4, c5, c6, c7, c8, c9, (fun _ => rfl), c11, c12, c13, c14, c15, c16, c17, c20, c18, d19⟩
                      case s11r1 =>
                        rintro L u W ⟨hB, c0, c1, c2, c3, c4, c5, c6, c7, c8, c9, c10, c11, c12, c13, c14, c15, c16, c17, c20, c18, d19⟩ hf hd K hK
                        dsimp only at hK
                        have hd9 : L 9 = true := (by first | (refine hd ⟨9, .data⟩ ?_ rfl; simp; done) | (refine hd ⟨9, .guard⟩ ?_ rfl; simp; done) | (refine hd ⟨9, .phase⟩ ?_ rfl; simp; done) | (refine hd ⟨9, .chain⟩ ?_ rfl; simp; done))
                        have hd10 : L 10 = true := (by first | (refine hd ⟨10, .data⟩ ?_ rfl; simp; done) | (refine hd ⟨10, .guard⟩ ?_ rfl; simp; done) | (refine hd ⟨10, .phase⟩ ?_ rfl; simp; done) | (refine hd ⟨10, .chain⟩ ?_ rfl; simp; done))
                        have e9 := c9 hd9
                        rw [e9] at hK
                        have e10 := c10 hd10
                        rw [e10] at hK
                        clear hd9
                        clear hd10
                        clear hd
                        go_simp
                        refine hK _ _ ?_ (fun h => by cases h)
                        intro s hs
                        cases hs
                        exact ⟨hB, c0, c1, c2, c3, c4, c5, c6, c7, c8, c9, c10, (fun _ => rfl), c12, c13, c14, c15, c16, c17, c20, c18, d19⟩
                      case s12r1 =>
                        rintro L u W ⟨hB, c0, c1, c2, c3, c4, c5, c6, c7, c8, c9, c10, c11, c12, c13, c14, c15, c16, c17, c20, c18, d19⟩ hf hd K hK
                        dsimp only at hK
                        have hd11 : L 11 = true := (by first | (refine hd ⟨11, .data⟩ ?_ rfl; simp; done) | (refine hd ⟨11, .guard⟩ ?_ rfl; simp; done) | (refine hd ⟨11, .phase⟩ ?_ rfl; simp; done) | (refine hd ⟨11, .chain⟩ ?_ rfl; simp; done))
                        have e11 := c11 hd11
                        rw [e11] at hK
                        clear hd11
                        clear hd
                        go_simp
                        refine hK _ _ ?_ (fun h => by cases h)
                        intro s hs
                        cases hs
                        exact ⟨hB, c0, c1, c2, c3, c4, c5, c6, c7, c8, c9, c10, c11, (fun _ => rfl), c13, c14, c15, c16, c17, c20, c18, d19⟩
                      case s13r1 =>
                        rintro L u W ⟨hB, c0, c1, c2, c3, c4, c5, c6, c7, c8, c9, c10, c11, c12, c13, c14, c15, c16, c17, c20, c18, d19⟩ hf hd K hK
                        dsimp only at hK
                        have hd12 : L 12 = true := (by first | (refine hd ⟨12, .data⟩ ?_ rfl; simp; done) | (refine hd ⟨12, .guard⟩ ?_ rfl; simp; done) | (refine hd ⟨12, .phase⟩ ?_ rfl; simp; done) | (refine hd ⟨12, .chain⟩ ?_ rfl; simp; done))
                        have e12 := c12 hd12
                        rw [e12] at hK
                        have t0 := keepc (BW.out.trans (hB.mono BW.out.size)) HX.out
                        clear hd12
                        clear hd
                        go_simp
                        refine hK _ _ ?_ (fun h => by cases h)
                        intro s hs
                        cases hs
                        exact ⟨hB, c0, c1, c2, c3, c4, c5, c6, c7, c8, c9, c10, c11, c12, (fun _ => rfl), c14, c15, c16, c17, c20, c18, d19⟩
                      case s14r1 =>
                        rintro L u W ⟨hB, c0, c1, c2, c3, c4, c5, c6, c7, c8, c9, c10, c11, c12, c13, c14, c15, c16, c17, c20, c18, d19⟩ hf hd K hK
                        dsimp only at hK
                        have hd0 : L 0 = true := (by first | (refine hd ⟨0, .data⟩ ?_ rfl; simp; done) | (refine hd ⟨0, .guard⟩ ?_ rfl; simp; done) | (refine hd ⟨0, .phase⟩ ?_ rfl; simp; done) | (refine hd ⟨0, .chain⟩ ?_ rfl; simp; done))
                        have hd8 : L 8 = true := (by first | (refine hd ⟨8, .data⟩ ?_ rfl; simp; done) | (refine hd ⟨8, .guard⟩ ?_ rfl; simp; done) | (refine hd ⟨8, .phase⟩ ?_ rfl; simp; done) | (refine hd ⟨8, .chain⟩ ?_ rfl; simp; done))
                        have hd13 : L 13 = true := (by first | (refine hd ⟨13, .data⟩ ?_ rfl; simp; done) | (refine hd ⟨13, .guard⟩ ?_ rfl; simp; done) | (refine hd ⟨13, .phase⟩ ?_ rfl; simp; done) | (refine hd ⟨13, .chain⟩ ?_ rfl; simp; done))
                        have e0 := c0 hd0
                        rw [e0] at hK
                        have e8 := c8 hd8
                        rw [e8] at hK
                        have e13 := c13 hd13
                        rw [e13] at hK
                        clear hd0
                        clear hd8
                        clear hd13
                        clear hd
                        go_simp
                        go_wp2_with (go_at_call 13; ((with_reducible refine (SN.out _ (BW.out.trans (hB.mono BW.out.size))).mono ?_); rintro e w5 ⟨rfl, hb⟩))
                        refine hK _ _ ?_ (fun h => by cases h)
                        intro s hs
                        cases hs
                        exact ⟨hB.trans (hb.mono hB.size), c0, c1, c2, c3, c4, c5, c6, c7, c8, c9, c10, c11, c12, c13, (fun _ => rfl), c15, c16, c17, c20, (fun h => by obtain ⟨g, x18_0, x18_1, x18_2, x18_3, x18_4, x18_5, k1, k2, k3, k4⟩ := c18 h; exact ⟨g, x18_0, x18_1, x18_2, x18_3, x18_4, x18_5, k1, k2, k3.keep hb, k4⟩), d19⟩
                      case s15r1 =>
                        rintro L u W ⟨hB, c0, c1, c2, c3, c4, c5, c6, c7, c8, c9, c10, c11, c12, c13, c14, c15, c16, c17, c20, c18, d19⟩ hf hd K hK
                        dsimp only at hK
                        have hd14 : L 14 = true := (by first | (refine hd ⟨14, .data⟩ ?_ rfl; simp; done) | (refine hd ⟨14, .guard⟩ ?_ rfl; simp; done) | (refine hd ⟨14, .phase⟩ ?_ rfl; simp; done) | (refine hd ⟨14, .chain⟩ ?_ rfl; simp; done))
                        have e14 := c14 hd14
                        rw [e14] at hK
                        clear hd14
                        clear hd
                        go_simp
                        refine hK _ _ ?_ (fun h => by cases h)
                        intro s hs
                        cases hs
                        exact ⟨hB, c0, c1, c2, c3, c4, c5, c6, c7, c8, c9, c10, c11, c12, c13, c14, (fun _ => rfl), c16, c17, c20, c18, d19⟩
                      case s16r1 =>
                        rintro L u W ⟨hB, c0, c1, c2, c3, c4, c5, c6, c7, c8, c9, c10, c11, c12, c13, c14, c15, c16, c17, c20, c18, d19⟩ hf hd K hK
                        dsimp only at hK
                        have hd15 : L 15 = true := (by first | (refine hd ⟨15, .data⟩ ?_ rfl; simp; done) | (refine hd ⟨15, .guard⟩ ?_ rfl; simp; done) | (refine hd ⟨15, .phase⟩ ?_ rfl; simp; done) | (refine hd ⟨15, .chain⟩ ?_ rfl; simp; done))
                        have e15 := c15 hd15
                        rw [e15] at hK
                        clear hd15
                        clear hd
                        go_simp
                        refine hK _ _ ?_ (fun h => by cases h)
                        intro s hs
                        cases hs
                        exact ⟨hB, c0, c1, c2, c3, c4, c5, c6, c7, c8, c9, c10, c11, c12, c13, c14, c15, (fun _ => rfl), c17, c20, c18, d19⟩
                      case s17r1 =>
                        rintro L u W ⟨hB, c0, c1, c2, c3, c4, c5, c6, c7, c8, c9, c10, c11, c12, c13, c14, c15, c16, c17, c20, c18, d19⟩ hf hd K hK
                        dsimp only at hK
                        have hd15 : L 15 = true := (by first | (refine hd ⟨15, .data⟩ ?_ rfl; simp; done) | (refine hd ⟨15, .guard⟩ ?_ rfl; simp; done) | (refine hd ⟨15, .phase⟩ ?_ rfl; simp; done) | (refine hd ⟨15, .chain⟩ ?_ rfl; simp; done))
                        have e15 := c15 hd15
                        rw [e15] at hK
                        clear hd15
                        clear hd
                        go_simp
                        refine hK _ _ ?_ (fun h => by cases h)
                        intro s hs
                        cases hs
                        exact ⟨hB, c0, c1, c2, c3, c4, c5, c6, c7, c8, c9, c10, c11, c12, c13, c14, c15, c16, (fun _ => rfl), c20, c18, d19⟩
                      case s18r1 =>
                        rintro L u W ⟨hB, c0, c1, c2, c3, c4, c5, c6, c7, c8, c9, c10, c11, c12, c13, c14, c15, c16, c17, c20, c18, d19⟩ hf hd K hK
                        dsimp only at hK
                        go_simp
                        have hb : Below W.heap.size W (W.alloc (.cells #[.int .i64 0, .int .i64 0, .int .i64 0, .int .i64 0, .int .i64 0, .int .i64 0] 41)) := (Below.refl _ W).alloc (Nat.le_refl _) _
                        refine hK _ _ ?_ (fun h => by cases h)
                        intro s hs
                        cases hs
                        exact ⟨hB.trans (hb.mono hB.size), c0, c1, c2, c3, c4, c5, c6, c7, c8, c9, c10, c11, c12, c13, c14, c15, c16, c17, c20, (fun _ => ⟨_, _, _, _, _, _, _, rfl, hB.size, Lok.new _ _ _, fun h => absurd (d19 h) (by rw [hf]; decide)⟩), (fun _ => rfl)⟩
                      case s19r1 =>
                        rintro L u W ⟨hB, c0, c1, c2, c3, c4, c5, c6, c7, c8, c9, c10, c11, c12, c13, c14, c15, c16, c17, c20, c18, d19⟩ hf hd K hK
                        dsimp only at hK
                        have hd18 : L 18 = true := hd ⟨18, .data⟩ (by simp) rfl
                        have hd16 : L 16 = true := (by first | (refine hd ⟨16, .data⟩ ?_ rfl; simp; done) | (refine hd ⟨16, .guard⟩ ?_ rfl; simp; done) | (refine hd ⟨16, .phase⟩ ?_ rfl; simp; done) | (refine hd ⟨16, .chain⟩ ?_ rfl; simp; done))
                        obtain ⟨g, x18_0, x18_1, x18_2, x18_3, x18_4, x18_5, e18, k2, k3, k4⟩ := c18 hd18
                        rw [e18] at hK
                        have e16 := c16 hd16
                        rw [e16] at hK
                        have t0 := k3.cell (i := 0) rfl
                        have f0 := k3.frozen 0
                        have t1 := k3.cell (i := 1) rfl
                        have f1 := k3.frozen 1
                        have t2 := k3.cell (i := 2) rfl
                        have f2 := k3.frozen 2
                        have t3 := k3.cell (i := 3) rfl
                        have f3 := k3.frozen 3
                        have t4 := k3.cell (i := 4) rfl
                        have f4 := k3.frozen 4
                        have t5 := k3.cell (i := 5) rfl
                        have f5 := k3.frozen 5
                        have HH := Lib.hid (And.intro trivial trivial)
                        clear hd
                        have hd18' := Lib.hid hd18
                        clear hd18
                        have hd16' := Lib.hid hd16
                        clear hd16
                        go_simp
                        have hd18 := hd18'.out
                        have hd16 := hd16'.out
                        have hlok := (((((k3.set (i := 0) (v := .int .i64 (shX FV FC ax.toNat xn.toNat 0))).set (i := 1) (v := .int .i64 (shY FV FC ax.toNat xn.toNat 0))).set (i := 2) (v := .int .i64 (shX FV FC ax.toNat xn.toNat 1))).set (i := 3) (v := .int .i64 (shY FV FC ax.toNat xn.toNat 1))).set (i := 4) (v := .int .i64 (shX FV FC ax.toNat xn.toNat 2))).set (i := 5) (v := .int .i64 (shY FV FC ax.toNat xn.toNat 2))
                        refine hK undef _ (fun s h => by cases h) (fun _ => ?_)
                        exact ⟨(((((hB.setCell k2 _).setCell k2 _).setCell k2 _).setCell k2 _).setCell k2 _).setCell k2 _, c0, c1, c2, c3, c4, c5, c6, c7, c8, c9, c10, c11, c12, c13, c14, c15, (fun _ => rfl), c17, c20, (fun _ => ⟨g, _, _, _, _, _, _, rfl, k2, hlok, fun _ => ⟨rfl, rfl, rfl, rfl, rfl, rfl⟩⟩), (fun _ => hd18)⟩
                      case s20r1 =>
                        rintro L u W ⟨hB, c0, c1, c2, c3, c4, c5, c6, c7, c8, c9, c10, c11, c12, c13, c14, c15, c16, c17, c20, c18, d19⟩ hf hd K hK
                        dsimp only at hK
                        have hd17 : L 17 = true := (by first | (refine hd ⟨17, .data⟩ ?_ rfl; simp; done) | (refine hd ⟨17, .guard⟩ ?_ rfl; simp; done) | (refine hd ⟨17, .phase⟩ ?_ rfl; simp; done) | (refine hd ⟨17, .chain⟩ ?_ rfl; simp; done))
                        have e17 := c17 hd17
                        rw [e17] at hK
                        clear hd17
                        clear hd
                        go_simp
                        refine hK _ _ ?_ (fun h => by cases h)
                        intro s hs
                        cases hs
                        exact ⟨hB, c0, c1, c2, c3, c4, c5, c6, c7, c8, c9, c10, c11, c12, c13, c14, c15, c16, c17, (fun _ => rfl), c18, d19⟩
                    case finr1 =>
                      rintro L u W hL ⟨hB, c0, c1, c2, c3, c4, c5, c6, c7, c8, c9, c10, c11, c12, c13, c14, c15, c16, c17, c20, c18, d19⟩
                      have e0 := c0 (hL 0 (by decide))
                      have e1 := c1 (hL 1 (by decide))
                      have e2 := c2 (hL 2 (by decide))
                      have e3 := c3 (hL 3 (by decide))
                      have e4 := c4 (hL 4 (by decide))
                      have e5 := c5 (hL 5 (by decide))
                      have e6 := c6 (hL 6 (by decide))
                      have e7 := c7 (hL 7 (by decide))
                      have e8 := c8 (hL 8 (by decide))
                      have e9 := c9 (hL 9 (by decide))
                      have e10 := c10 (hL 10 (by decide))
                      have e11 := c11 (hL 11 (by decide))
                      have e12 := c12 (hL 12 (by decide))
                      have e13 := c13 (hL 13 (by decide))
                      have e14 := c14 (hL 14 (by decide))
                      have e15 := c15 (hL 15 (by decide))
                      have e16 := c16 (hL 16 (by decide))
                      have e17 := c17 (hL 17 (by decide))
                      have e20 := c20 (hL 20 (by decide))
                      obtain ⟨g18, x18_0, x18_1, x18_2, x18_3, x18_4, x18_5, e18, hg18, hlok18, hst18⟩ := c18 (hL 18 (by decide))
                      obtain ⟨rfl, rfl, rfl, rfl, rfl, rfl⟩ := hst18 (hL 19 (by decide))
                      clear hst18
                      clear hL c0 c1 c2 c3 c4 c5 c6 c7 c8 c9 c10 c11 c12 c13 c14 c15 c16 c17 c20 c18 d19
                      try simp only [e0, e1, e2, e3, e4, e5, e6, e7, e8, e9, e10, e11, e12, e13, e14, e15, e16, e17, e20, e18]
                      clear e0 e1 e2 e3 e4 e5 e6 e7 e8 e9 e10 e11 e12 e13 e14 e15 e16 e17 e20 e18
                      have kn := Lib.hid hlok18
                      have BX := Lib.hid (BW.out.trans (hB.mono BW.out.size))
                      have kj2 := Lib.hid (kj.out.keep hB)
                      clear hlok18 hB km
                      have p0 := kj2.out.cell (i := 0) rfl
                      have p1 := kj2.out.cell (i := 1) rfl
                      have p2 := kj2.out.cell (i := 2) rfl
                      have p3 := kj2.out.cell (i := 3) rfl
                      have p4 := kj2.out.cell (i := 4) rfl
                      have p5 := kj2.out.cell (i := 5) rfl
                      have r0 := kn.out.cell (i := 0) rfl
                      have r1 := kn.out.cell (i := 1) rfl
                      have r2 := kn.out.cell (i := 2) rfl
                      have r3 := kn.out.cell (i := 3) rfl
                      have r4 := kn.out.cell (i := 4) rfl
                      have r5 := kn.out.cell (i := 5) rfl
                      go_wp2_with fail
                      clear p0 p1 p2 p3 p4 p5 r0 r1 r2 r3 r4 r5
                      ((with_reducible refine (OV.out _).mono ?_); rintro e w8 ⟨rfl, hb8⟩)
                      replace BX := Lib.hid (BX.out.trans (hb8.mono BX.out.size))
                      replace kj2 := Lib.hid (kj2.out.keep hb8)
                      clear hb8 kn
                      go_wp2
                      go_roundw
                      case rel => exact ⟨n + 1, by go_num, hnt, BX.out, kj2.out⟩
                      case measure => simp [intOf]; omega
                  · obtain rfl : j = n := by omega
                    go_wp2
                    go_roundw
                    case rel => exact ⟨j + 1, by go_num, hjt, BW.out⟩
                    case measure => simp [intOf]; omega
            · obtain rfl : m = j := by omega
              go_wp2
              go_roundw
              case rel => exact ⟨i + 1, by go_num, hlt, B2.out⟩
              case measure => simp [intOf]; omega
        · obtain rfl : k = i := by omega
          have HB := Lib.hid (HB0.out.trans (B2.out.mono HB0.out.size))
          clear HB0 B2 km0
          go_wp2_with fail
          (((with_reducible refine (CD.out _).mono ?_); rintro e w9 ⟨rfl, hb9⟩); replace HB := Lib.hid (HB.out.trans (hb9.mono HB.out.size)); clear hb9)
          go_wp2
          go_ret
          exact ⟨rfl, HB.out⟩
end Go.Proofs.Ytcnbbanpnoigdaa
