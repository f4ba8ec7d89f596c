/-
  The law ChartFull, from what the package is to answer. (gen/ChP.py)
-/
import Derived.Test.YtcnbbanpnoigdaaChM
import Derived.Test.YtcnbbanpnoigdaaHh
namespace Go.Proofs.Ytcnbbanpnoigdaa
open Go.RowKit

theorem ownI_slc {w : World} {base : Nat} {v : Value} {L : List Int} (h : OwnI w base v L) : ∃ a n c, v = .slice a n c := by
  obtain ⟨a, c, e, -⟩ := rowI_of_own h
  exact ⟨a, _, c, e⟩
/-- A chart under way in a block, its row of the call's own. -/
def PaK (W : World) (g B : Nat) (ax sd : Int) (l : List Int) : Prop := ∃ v, Lok W g 36 #[.int .i64 ax, .int .i64 sd, v] ∧ OwnI W B v l
theorem PaK.keep {W W' : World} {g B : Nat} {ax sd : Int} {l : List Int} (h : PaK W g B ax sd l) (hb : Below W.heap.size W W') : PaK W' g B ax sd l := by
  obtain ⟨v, k, o⟩ := h; exact ⟨v, k.keep hb, o.keep hb⟩
set_option maxRecDepth 100000 in
set_option maxHeartbeats 32000000 in
theorem law_full (E : ChOK) (CH : ∀ w, Calls Try.prog 9 #[] w fun e w' => e = .returned (.bool true) ∧ Below w.heap.size w w') (pa1 pa2 pa3 pa4 : Option Addr) (n1 n2 n3 n4 c1 c2 c3 c4 : Nat) (FV FT FN FC : Nat → Nat → Int) (w : World) (hm : RowK w pa1 n1 3 FV ∧ RowK w pa2 n2 2 FT ∧ RowK w pa3 n3 3 FN ∧ RowK w pa4 n4 9 FC) :
    Calls Try.prog 5 #[.agg #[.slice pa1 n1 c1, .slice pa2 n2 c2, .slice pa3 n3 c3, .slice pa4 n4 c4]] w fun e w' => e = .returned (.bool true) ∧ Below w.heap.size w w' := by
  have HB := Lib.hid (Below.refl w.heap.size w)
  have FW := Lib.hid (fun W => rfew15_any pa1 pa2 pa3 pa4 n1 n2 n3 n4 c1 c2 c3 c4 W)
  have CD := Lib.hid CH
  clear CH
  cases hf : fw15 n1 n2 n3 n4 with
  | false =>
    rw [hf] at FW
    go_enter Try.func5, Try.ntmps5
    go_upto_region 1 with fail
    have hbm := below_new1 w (.cells #[.slice pa1 n1 c1, .slice pa2 n2 c2, .slice pa3 n3 c3, .slice pa4 n4 c4] 26)
    have zm : (w.alloc (.cells #[.slice pa1 n1 c1, .slice pa2 n2 c2, .slice pa3 n3 c3, .slice pa4 n4 c4] 26)).heap.size = w.heap.size + 1 := by simp
    have HB := Lib.hid hbm
    have km := Lib.hid (Lok.new w 26 #[.slice pa1 n1 c1, .slice pa2 n2 c2, .slice pa3 n3 c3, .slice pa4 n4 c4])
    clear hbm
    generalize w.alloc (.cells #[.slice pa1 n1 c1, .slice pa2 n2 c2, .slice pa3 n3 c3, .slice pa4 n4 c4] 26) = Vm at *
    clear zm
    have m0 := km.out.cell (i := 0) rfl
    have m1 := km.out.cell (i := 1) rfl
    have m2 := km.out.cell (i := 2) rfl
    have m3 := km.out.cell (i := 3) rfl
    go_wp2_with fail
    clear m0 m1 m2 m3
    (((with_reducible refine (FW.out _).mono ?_); rintro e w1 ⟨rfl, hb1⟩); replace HB := Lib.hid (HB.out.trans (hb1.mono HB.out.size)); replace km := Lib.hid (km.out.keep hb1); clear hb1)
    clear km
    go_wp2
    go_ret
    exact ⟨rfl, HB.out⟩
  | true =>
    have q := fw15_yes hf
    rw [hf] at FW
    have M := Lib.hid (show MsW w pa1 pa2 pa3 pa4 n1 n2 n3 n4 FV FT FN FC from ⟨hm, by omega, by omega, by omega, by omega⟩)
    have GR := Lib.hid (fun W (h : Below w.heap.size w W) => E.grow pa1 pa2 pa3 pa4 n1 n2 n3 n4 c1 c2 c3 c4 FV FT FN FC W (M.out.keep h) q.1.1 q.2)
    have FI := Lib.hid (fun ax sd a m c l i W (h : Below w.heap.size w W) hr h20 => E.fits pa1 pa2 pa3 pa4 n1 n2 n3 n4 c1 c2 c3 c4 FV FT FN FC ax sd a m c l i W (M.out.keep h) q.1.1 q.2 hr h20)
    clear hf hm E M
    cases hr : tmB n1 n2 n3 n4 FV FT FN FC with
    | false =>
      rw [hr] at GR
      rw [show agE false = 1 from rfl, show chA false n4 FV FC = [] from rfl] at GR
      clear hr FI
      go_enter Try.func5, Try.ntmps5
      go_upto_region 1 with fail
      have hbm := below_new1 w (.cells #[.slice pa1 n1 c1, .slice pa2 n2 c2, .slice pa3 n3 c3, .slice pa4 n4 c4] 26)
      have zm : (w.alloc (.cells #[.slice pa1 n1 c1, .slice pa2 n2 c2, .slice pa3 n3 c3, .slice pa4 n4 c4] 26)).heap.size = w.heap.size + 1 := by simp
      have HB := Lib.hid hbm
      have km := Lib.hid (Lok.new w 26 #[.slice pa1 n1 c1, .slice pa2 n2 c2, .slice pa3 n3 c3, .slice pa4 n4 c4])
      clear hbm
      generalize w.alloc (.cells #[.slice pa1 n1 c1, .slice pa2 n2 c2, .slice pa3 n3 c3, .slice pa4 n4 c4] 26) = Vm at *
      clear zm
      have m0 := km.out.cell (i := 0) rfl
      have m1 := km.out.cell (i := 1) rfl
      have m2 := km.out.cell (i := 2) rfl
      have m3 := km.out.cell (i := 3) rfl
      go_wp2_with fail
      clear m0 m1 m2 m3
      (((with_reducible refine (FW.out _).mono ?_); rintro e w1 ⟨rfl, hb1⟩); replace HB := Lib.hid (HB.out.trans (hb1.mono HB.out.size)); replace km := Lib.hid (km.out.keep hb1); clear hb1)
      have m0 := km.out.cell (i := 0) rfl
      have m1 := km.out.cell (i := 1) rfl
      have m2 := km.out.cell (i := 2) rfl
      have m3 := km.out.cell (i := 3) rfl
      go_wp2_with fail
      clear m0 m1 m2 m3
      ((with_reducible refine (GR.out _ HB.out).mono ?_); rintro e w2 ⟨⟨v2, Z2, rfl, O2, HZ2⟩, hb2⟩)
      obtain ⟨a2, d2, rfl, -, -, -, -⟩ := rowC_of_own O2
      clear O2 HZ2 GR FW km
      replace HB := Lib.hid (HB.out.trans (hb2.mono HB.out.size))
      clear hb2
      go_wp2_with fail
      (((with_reducible refine (CD.out _).mono ?_); rintro e w3 ⟨rfl, hb3⟩); replace HB := Lib.hid (HB.out.trans (hb3.mono HB.out.size)); clear hb3)
      go_wp2
      go_ret
      exact ⟨rfl, HB.out⟩
    | true =>
      rw [hr] at GR FI
      rw [show agE true = 0 from rfl, show chA true n4 FV FC = (chF true n4 FV FC).grow (chF true n4 FV FC).n from rfl] at GR
      have CHN : Hid (∀ c ∈ (chF true n4 FV FC).grow (chF true n4 FV FC).n, ∀ j, j < c.2.2.length → (chF true n4 FV FC).fits c.1 c.2.1 (c.2.2.take j) (c.2.2.getD j 0) = true) := Lib.hid (fun c hc j hj => by
        have z := ((chF true n4 FV FC).grow_at hc).2.1 j hj
        rw [List.getD_eq_getElem?_getD, List.getElem?_eq_getElem hj]
        exact z)
      have LAT : Hid (∀ (i j : Nat) (a b : ChT), ((chF true n4 FV FC).grow (chF true n4 FV FC).n)[i]? = some a → ((chF true n4 FV FC).grow (chF true n4 FV FC).n)[j]? = some b → i < j → ∀ x ∈ b.2.2, (chF true n4 FV FC).fits a.1 a.2.1 a.2.2 x = false) := Lib.hid (fun i j a b ha hb h x hx => (chF true n4 FV FC).grow_later ha hb h hx)
      have TLN : Hid (∀ c ∈ (chF true n4 FV FC).grow (chF true n4 FV FC).n, c.2.2.length ≤ 12) := Lib.hid (fun c hc => by
        obtain ⟨P, g, -⟩ := ((chF true n4 FV FC).grown (Nat.le_refl _)).good c hc
        exact Nat.le_trans ((chF true n4 FV FC).good_len g) q.2)
      have LEN : ((chF true n4 FV FC).grow (chF true n4 FV FC).n).length ≤ 12 := Nat.le_trans (grow_len _ _) q.2
      clear hr
      generalize (chF true n4 FV FC).grow (chF true n4 FV FC).n = L at *
      go_enter Try.func5, Try.ntmps5
      go_upto_region 1 with fail
      have hbm := below_new1 w (.cells #[.slice pa1 n1 c1, .slice pa2 n2 c2, .slice pa3 n3 c3, .slice pa4 n4 c4] 26)
      have zm : (w.alloc (.cells #[.slice pa1 n1 c1, .slice pa2 n2 c2, .slice pa3 n3 c3, .slice pa4 n4 c4] 26)).heap.size = w.heap.size + 1 := by simp
      have HB := Lib.hid hbm
      have km := Lib.hid (Lok.new w 26 #[.slice pa1 n1 c1, .slice pa2 n2 c2, .slice pa3 n3 c3, .slice pa4 n4 c4])
      clear hbm
      generalize w.alloc (.cells #[.slice pa1 n1 c1, .slice pa2 n2 c2, .slice pa3 n3 c3, .slice pa4 n4 c4] 26) = Vm at *
      clear zm
      have m0 := km.out.cell (i := 0) rfl
      have m1 := km.out.cell (i := 1) rfl
      have m2 := km.out.cell (i := 2) rfl
      have m3 := km.out.cell (i := 3) rfl
      go_wp2_with fail
      clear m0 m1 m2 m3
      (((with_reducible refine (FW.out _).mono ?_); rintro e w1 ⟨rfl, hb1⟩); replace HB := Lib.hid (HB.out.trans (hb1.mono HB.out.size)); replace km := Lib.hid (km.out.keep hb1); clear hb1)
      have m0 := km.out.cell (i := 0) rfl
      have m1 := km.out.cell (i := 1) rfl
      have m2 := km.out.cell (i := 2) rfl
      have m3 := km.out.cell (i := 3) rfl
      go_wp2_with fail
      clear m0 m1 m2 m3
      ((with_reducible refine (GR.out _ HB.out).mono ?_); rintro e w2 ⟨⟨v2, Z2, rfl, O2, HZ2⟩, hb2⟩)
      obtain ⟨a2, d2, rfl, -, lc2, mc2, R2⟩ := rowC_of_own O2
      rw [HZ2] at R2
      have hkl := R2.1
      clear O2 HZ2 GR FW
      generalize Z2.length = k at *
      rw [hkl] at LEN
      replace R2 := Lib.hid R2
      replace HB := Lib.hid (HB.out.trans (hb2.mono HB.out.size))
      replace km := Lib.hid (km.out.keep hb2)
      have B2 := Lib.hid (Below.refl w2.heap.size w2)
      clear hb2
      have HB0 := HB
      have km0 := km
      clear HB km
      generalize chF true n4 FV FC = FF at *
      go_wp2_with fail
      go_loopw [5] (fun x wr => ∃ i : Nat, x = .int .i64 i ∧ i ≤ k ∧ Below w2.heap.size w2 wr) (fun x _ => k - (intOf x).toNat)
      case atStart => exact ⟨0, rfl, Nat.zero_le _, B2.out⟩
      case round =>
        clear B2
        obtain ⟨i, rfl, hi, hB⟩ := hrel
        have B2 := Lib.hid hB
        clear hB
        by_cases hlt : i < k
        · have i0 : (0 : Int) ≤ (i : Int) := by omega
          have i1 : (i : Int) < (k : Int) := by omega
          have i2 : ((i : Int)).toNat = i := by omega
          have R2b := R2
          obtain ⟨b, o, t, m, ct, ax, sd, l, e2, hb, hL, hx, hy, hz, hr, htn, hmc, hcm⟩ := R2.out.at hlt
          subst e2
          have CN := Lib.hid (CHN.out _ (List.mem_of_getElem? hL))
          have LT := Lib.hid (fun j b => LAT.out i j _ b hL)
          have tl := TLN.out _ (List.mem_of_getElem? hL)
          dsimp only at CN LT tl
          have ml := hr.1
          rw [ml] at tl CN
          rw [← Nat.add_assoc] at hy hz
          have HX := Lib.hid hx
          have HY := Lib.hid hy
          have HZ := Lib.hid hz
          have HR := Lib.hid hr
          have ML := Lib.hid ml
          have HCM := Lib.hid (And.intro htn (And.intro hmc hcm))
          clear hL hx hy hz hr htn hcm ml hmc
          go_upto_region 9 with fail
          refine wp_region_rel (by kernel_rfl) [27, 28, 29, 30, 31, 32, 33, 34, 35, 36, 37, 6] ?Fr4 ?hFr4
            (fun L u W => Below wr.heap.size wr W ∧ (L 0 = true → u 27 = .slice (some ⟨b, o, none⟩) k d2) ∧ (L 1 = true → u 28 = .int .i64 (i : Int)) ∧ (L 2 = true → u 29 = .pointer (some ⟨b, o + i * 3, none⟩)) ∧ (L 3 = true → u 30 = .pointer (some ⟨b, o + i * 3, none⟩)) ∧ (L 4 = true → u 31 = .int .i64 ax) ∧ (L 5 = true → u 32 = .slice (some ⟨b, o, none⟩) k d2) ∧ (L 6 = true → u 33 = .int .i64 (i : Int)) ∧ (L 7 = true → u 34 = .pointer (some ⟨b, o + i * 3, none⟩)) ∧ (L 8 = true → u 35 = .pointer (some ⟨b, o + i * 3 + 1, none⟩)) ∧ (L 9 = true → u 36 = .int .i64 sd) ∧ (L 10 = true → u 37 = .agg #[.int .i64 ax, .int .i64 sd, .slice none 0 0]) ∧ (L 11 = true → ∃ (g : Nat) (x11_0 x11_1 x11_2 : Value), u 6 = .pointer (some ⟨g, 0, none⟩) ∧ wr.heap.size ≤ g ∧ Lok W g 36 #[x11_0, x11_1, x11_2] ∧ (L 12 = true → x11_0 = .int .i64 ax ∧ x11_1 = .int .i64 sd ∧ x11_2 = .slice none 0 0)) ∧ (L 12 = true → L 11 = true)) (by kernel_rfl) (by kernel_rfl) 13 rfl ?h0r4 ?stepr4 ?finr4
          case hFr4 => intro u; simp only [putAll, Act.put, List.setIfInBounds_toArray, List.set]; exact rfl
          case h0r4 => intro L u hL; exact ⟨(Below.refl _ _).drew, (fun h => by simp [hL] at h), (fun h => by simp [hL] at h), (fun h => by simp [hL] at h), (fun h => by simp [hL] at h), (fun h => by simp [hL] at h), (fun h => by simp [hL] at h), (fun h => by simp [hL] at h), (fun h => by simp [hL] at h), (fun h => by simp [hL] at h), (fun h => by simp [hL] at h), (fun h => by simp [hL] at h), (fun h => by simp [hL] at h), (fun h => by simp [hL] at h)⟩
          case stepr4 =>
            refine ops_all (ops_cons ?s0r4 (ops_cons ?s1r4 (ops_cons ?s2r4 (ops_cons ?s3r4 (ops_cons ?s4r4 (ops_cons ?s5r4 (ops_cons ?s6r4 (ops_cons ?s7r4 (ops_cons ?s8r4 (ops_cons ?s9r4 (ops_cons ?s10r4 (ops_cons ?s11r4 (ops_cons ?s12r4 (ops_nil))))))))))))))
            case s0r4 =>
              rintro L u W ⟨hB, c0, c1, c2, c3, c4, c5, c6, c7, c8, c9, c10, c11, d12⟩ hf hd K hK
              dsimp only at hK
              clear hd
              go_simp
              refine hK _ _ ?_ (fun h => by cases h)
              intro s hs
              cases hs
              exact ⟨hB, (fun _ => rfl), c1, c2, c3, c4, c5, c6, c7, c8, c9, c10, c11, d12⟩
            case s1r4 =>
              rintro L u W ⟨hB, c0, c1, c2, c3, c4, c5, c6, c7, c8, c9, c10, c11, d12⟩ hf hd K hK
              dsimp only at hK
              clear hd
              go_simp
              refine hK _ _ ?_ (fun h => by cases h)
              intro s hs
              cases hs
              exact ⟨hB, c0, (fun _ => rfl), c2, c3, c4, c5, c6, c7, c8, c9, c10, c11, d12⟩
            case s2r4 =>
              rintro L u W ⟨hB, c0, c1, c2, c3, c4, c5, c6, c7, c8, c9, c10, c11, d12⟩ hf hd K hK
              dsimp only at hK
              have hd0 : L 0 = true := (by first | (refine hd ⟨0, .data⟩ ?_ rfl; simp; done) | (refine hd ⟨0, .guard⟩ ?_ rfl; simp; done) | (refine hd ⟨0, .phase⟩ ?_ rfl; simp; done) | (refine hd ⟨0, .chain⟩ ?_ rfl; simp; done))
              have hd1 : L 1 = true := (by first | (refine hd ⟨1, .data⟩ ?_ rfl; simp; done) | (refine hd ⟨1, .guard⟩ ?_ rfl; simp; done) | (refine hd ⟨1, .phase⟩ ?_ rfl; simp; done) | (refine hd ⟨1, .chain⟩ ?_ rfl; simp; done))
              have e0 := c0 hd0
              rw [e0] at hK
              have e1 := c1 hd1
              rw [e1] at hK
              clear hd0
              clear hd1
              clear hd
              go_simp
              refine hK _ _ ?_ (fun h => by cases h)
              intro s hs
              cases hs
              exact ⟨hB, c0, c1, (fun _ => rfl), c3, c4, c5, c6, c7, c8, c9, c10, c11, d12⟩
            case s3r4 =>
              rintro L u W ⟨hB, c0, c1, c2, c3, c4, c5, c6, c7, c8, c9, c10, c11, d12⟩ hf hd K hK
              dsimp only at hK
              have hd2 : L 2 = true := (by first | (refine hd ⟨2, .data⟩ ?_ rfl; simp; done) | (refine hd ⟨2, .guard⟩ ?_ rfl; simp; done) | (refine hd ⟨2, .phase⟩ ?_ rfl; simp; done) | (refine hd ⟨2, .chain⟩ ?_ rfl; simp; done))
              have e2 := c2 hd2
              rw [e2] at hK
              clear hd2
              clear hd
              go_simp
              refine hK _ _ ?_ (fun h => by cases h)
              intro s hs
              cases hs
              exact ⟨hB, c0, c1, c2, (fun _ => rfl), c4, c5, c6, c7, c8, c9, c10, c11, d12⟩
            case s4r4 =>
              rintro L u W ⟨hB, c0, c1, c2, c3, c4, c5, c6, c7, c8, c9, c10, c11, d12⟩ hf hd K hK
              dsimp only at hK
              have hd3 : L 3 = true := (by first | (refine hd ⟨3, .data⟩ ?_ rfl; simp; done) | (refine hd ⟨3, .guard⟩ ?_ rfl; simp; done) | (refine hd ⟨3, .phase⟩ ?_ rfl; simp; done) | (refine hd ⟨3, .chain⟩ ?_ rfl; simp; done))
              have e3 := c3 hd3
              rw [e3] at hK
              have t0 := keepc (B2.out.trans (hB.mono B2.out.size)) HX.out
              clear hd3
              clear hd
              go_simp
              refine hK _ _ ?_ (fun h => by cases h)
              intro s hs
              cases hs
              exact ⟨hB, c0, c1, c2, c3, (fun _ => rfl), c5, c6, c7, c8, c9, c10, c11, d12⟩
            case s5r4 =>
              rintro L u W ⟨hB, c0, c1, c2, c3, c4, c5, c6, c7, c8, c9, c10, c11, d12⟩ hf hd K hK
              dsimp only at hK
              clear hd
              go_simp
              refine hK _ _ ?_ (fun h => by cases h)
              intro s hs
              cases hs
              exact ⟨hB, c0, c1, c2, c3, c4, (fun _ => rfl), c6, c7, c8, c9, c10, c11, d12⟩
            case s6r4 =>
              rintro L u W ⟨hB, c0, c1, c2, c3, c4, c5, c6, c7, c8, c9, c10, c11, d12⟩ hf hd K hK
              dsimp only at hK
              clear hd
              go_simp
              refine hK _ _ ?_ (fun h => by cases h)
              intro s hs
              cases hs
              exact ⟨hB, c0, c1, c2, c3, c4, c5, (fun _ => rfl), c7, c8, c9, c10, c11, d12⟩
            case s7r4 =>
              rintro L u W ⟨hB, c0, c1, c2, c3, c4, c5, c6, c7, c8, c9, c10, c11, d12⟩ hf hd K hK
              dsimp only at hK
              have hd5 : L 5 = true := (by first | (refine hd ⟨5, .data⟩ ?_ rfl; simp; done) | (refine hd ⟨5, .guard⟩ ?_ rfl; simp; done) | (refine hd ⟨5, .phase⟩ ?_ rfl; simp; done) | (refine hd ⟨5, .chain⟩ ?_ rfl; simp; done))
              have hd6 : L 6 = true := (by first | (refine hd ⟨6, .data⟩ ?_ rfl; simp; done) | (refine hd ⟨6, .guard⟩ ?_ rfl; simp; done) | (refine hd ⟨6, .phase⟩ ?_ rfl; simp; done) | (refine hd ⟨6, .chain⟩ ?_ rfl; simp; done))
              have e5 := c5 hd5
              rw [e5] at hK
              have e6 := c6 hd6
              rw [e6] at hK
              clear hd5
              clear hd6
              clear hd
              go_simp
              refine hK _ _ ?_ (fun h => by cases h)
              intro s hs
              cases hs
              exact ⟨hB, c0, c1, c2, c3, c4, c5, c6, (fun _ => rfl), c8, c9, c10, c11, d12⟩
            case s8r4 =>
              rintro L u W ⟨hB, c0, c1, c2, c3, c4, c5, c6, c7, c8, c9, c10, c11, d12⟩ hf hd K hK
              dsimp only at hK
              have hd7 : L 7 = true := (by first | (refine hd ⟨7, .data⟩ ?_ rfl; simp; done) | (refine hd ⟨7, .guard⟩ ?_ rfl; simp; done) | (refine hd ⟨7, .phase⟩ ?_ rfl; simp; done) | (refine hd ⟨7, .chain⟩ ?_ rfl; simp; done))
              have e7 := c7 hd7
              rw [e7] at hK
              clear hd7
              clear hd
              go_simp
              refine hK _ _ ?_ (fun h => by cases h)
              intro s hs
              cases hs
              exact ⟨hB, c0, c1, c2, c3, c4, c5, c6, c7, (fun _ => rfl), c9, c10, c11, d12⟩
            case s9r4 =>
              rintro L u W ⟨hB, c0, c1, c2, c3, c4, c5, c6, c7, c8, c9, c10, c11, d12⟩ hf hd K hK
              dsimp only at hK
              have hd8 : L 8 = true := (by first | (refine hd ⟨8, .data⟩ ?_ rfl; simp; done) | (refine hd ⟨8, .guard⟩ ?_ rfl; simp; done) | (refine hd ⟨8, .phase⟩ ?_ rfl; simp; done) | (refine hd ⟨8, .chain⟩ ?_ rfl; simp; done))
              have e8 := c8 hd8
              rw [e8] at hK
              have t0 := keepc (B2.out.trans (hB.mono B2.out.size)) HY.out
              clear hd8
              clear hd
              go_simp
              refine hK _ _ ?_ (fun h => by cases h)
              intro s hs
              cases hs
              exact ⟨hB, c0, c1, c2, c3, c4, c5, c6, c7, c8, (fun _ => rfl), c10, c11, d12⟩
            case s10r4 =>
              rintro L u W ⟨hB, c0, c1, c2, c3, c4, c5, c6, c7, c8, c9, c10, c11, d12⟩ hf hd K hK
              dsimp only at hK
              have hd4 : L 4 = true := (by first | (refine hd ⟨4, .data⟩ ?_ rfl; simp; done) | (refine hd ⟨4, .guard⟩ ?_ rfl; simp; done) | (refine hd ⟨4, .phase⟩ ?_ rfl; simp; done) | (refine hd ⟨4, .chain⟩ ?_ rfl; simp; done))
              have hd9 : L 9 = true := (by first | (refine hd ⟨9, .data⟩ ?_ rfl; simp; done) | (refine hd ⟨9, .guard⟩ ?_ rfl; simp; done) | (refine hd ⟨9, .phase⟩ ?_ rfl; simp; done) | (refine hd ⟨9, .chain⟩ ?_ rfl; simp; done))
              have e4 := c4 hd4
              rw [e4] at hK
              have e9 := c9 hd9
              rw [e9] at hK
              clear hd4
              clear hd9
              clear hd
              go_simp
              refine hK _ _ ?_ (fun h => by cases h)
              intro s hs
              cases hs
              exact ⟨hB, c0, c1, c2, c3, c4, c5, c6, c7, c8, c9, (fun _ => rfl), c11, d12⟩
            case s11r4 =>
              rintro L u W ⟨hB, c0, c1, c2, c3, c4, c5, c6, c7, c8, c9, c10, c11, d12⟩ hf hd K hK
              dsimp only at hK
              go_simp
              have hb : Below W.heap.size W (W.alloc (.cells #[.int .i64 0, .int .i64 0, .slice none 0 0] 36)) := (Below.refl _ W).alloc (Nat.le_refl _) _
              refine hK _ _ ?_ (fun h => by cases h)
              intro s hs
              cases hs
              exact ⟨hB.trans (hb.mono hB.size), c0, c1, c2, c3, c4, c5, c6, c7, c8, c9, c10, (fun _ => ⟨_, _, _, _, rfl, hB.size, Lok.new _ _ _, fun h => absurd (d12 h) (by rw [hf]; decide)⟩), (fun _ => rfl)⟩
            case s12r4 =>
              rintro L u W ⟨hB, c0, c1, c2, c3, c4, c5, c6, c7, c8, c9, c10, c11, d12⟩ hf hd K hK
              dsimp only at hK
              have hd11 : L 11 = true := hd ⟨11, .data⟩ (by simp) rfl
              have hd10 : L 10 = true := (by first | (refine hd ⟨10, .data⟩ ?_ rfl; simp; done) | (refine hd ⟨10, .guard⟩ ?_ rfl; simp; done) | (refine hd ⟨10, .phase⟩ ?_ rfl; simp; done) | (refine hd ⟨10, .chain⟩ ?_ rfl; simp; done))
              obtain ⟨g, x11_0, x11_1, x11_2, e11, k2, k3, k4⟩ := c11 hd11
              rw [e11] at hK
              have e10 := c10 hd10
              rw [e10] at hK
              have t0 := k3.cell (i := 0) rfl
              have f0 := k3.frozen 0
              have t1 := k3.cell (i := 1) rfl
              have f1 := k3.frozen 1
              have t2 := k3.cell (i := 2) rfl
              have f2 := k3.frozen 2
              have HH := Lib.hid (And.intro trivial trivial)
              clear hd
              have hd11' := Lib.hid hd11
              clear hd11
              have hd10' := Lib.hid hd10
              clear hd10
              go_simp
              have hd11 := hd11'.out
              have hd10 := hd10'.out
              have hlok := ((k3.set (i := 0) (v := .int .i64 ax)).set (i := 1) (v := .int .i64 sd)).set (i := 2) (v := .slice none 0 0)
              refine hK undef _ (fun s h => by cases h) (fun _ => ?_)
              exact ⟨((hB.setCell k2 _).setCell k2 _).setCell k2 _, c0, c1, c2, c3, c4, c5, c6, c7, c8, c9, (fun _ => rfl), (fun _ => ⟨g, _, _, _, rfl, k2, hlok, fun _ => ⟨rfl, rfl, rfl⟩⟩), (fun _ => hd11)⟩
          case finr4 =>
            rintro L u W hL ⟨hB, c0, c1, c2, c3, c4, c5, c6, c7, c8, c9, c10, c11, d12⟩
            have e0 := c0 (hL 0 (by decide))
            have e1 := c1 (hL 1 (by decide))
            have e2 := c2 (hL 2 (by decide))
            have e3 := c3 (hL 3 (by decide))
            have e4 := c4 (hL 4 (by decide))
            have e5 := c5 (hL 5 (by decide))
            have e6 := c6 (hL 6 (by decide))
            have e7 := c7 (hL 7 (by decide))
            have e8 := c8 (hL 8 (by decide))
            have e9 := c9 (hL 9 (by decide))
            have e10 := c10 (hL 10 (by decide))
            obtain ⟨g11, x11_0, x11_1, x11_2, e11, hg11, hlok11, hst11⟩ := c11 (hL 11 (by decide))
            obtain ⟨rfl, rfl, rfl⟩ := hst11 (hL 12 (by decide))
            clear hst11
            clear hL c0 c1 c2 c3 c4 c5 c6 c7 c8 c9 c10 c11 d12
            try simp only [e0, e1, e2, e3, e4, e5, e6, e7, e8, e9, e10, e11]
            clear e0 e1 e2 e3 e4 e5 e6 e7 e8 e9 e10 e11
            have g1 := hlok11.lt
            have P0 : PaK W g11 W.heap.size ax sd [] := ⟨_, hlok11, OwnI.nil _ _⟩
            have BX := Lib.hid (B2.out.trans (hB.mono B2.out.size))
            have hg2 : w2.heap.size ≤ g11 := Nat.le_trans B2.out.size hg11
            obtain ⟨B6, eB6⟩ : ∃ B6, W.heap.size = B6 := ⟨_, rfl⟩
            rw [eB6] at P0 g1
            have hB6 : B6 ≤ W.heap.size := by omega
            clear eB6
            replace P0 := Lib.hid P0
            clear hlok11 hB B2
            have hz := keepc BX.out HZ.out
            go_wp2_with fail
            clear hz
            go_loopw [7] (fun x wv => ∃ j : Nat, x = .int .i64 j ∧ j ≤ m ∧ PaK wv g11 B6 ax sd (l.take j) ∧ Below w2.heap.size w2 wv ∧ B6 ≤ wv.heap.size) (fun x _ => m - (intOf x).toNat)
            case atStart => exact ⟨0, rfl, Nat.zero_le _, by rw [List.take_zero]; exact P0.out, BX.out, hB6⟩
            case round =>
              clear P0 BX
              obtain ⟨j, rfl, hj, hP, hB, h6⟩ := hrel
              have BX := Lib.hid hB
              clear hB
              have km := Lib.hid (km0.out.keep BX.out)
              have hz := keepc BX.out HZ.out
              by_cases hjt : j < m
              · have j0 : (0 : Int) ≤ (j : Int) := by omega
                have j1 : (j : Int) < (m : Int) := by omega
                have j2 : ((j : Int)).toNat = j := by omega
                obtain ⟨v, kp0, op0⟩ := hP
                have lenj : (l.take j).length = j := by rw [List.length_take, ML.out]; omega
                obtain ⟨aP, dP, rfl, hPn, hPc, hPm, RP0⟩ := rowI_of_own op0
                rw [lenj] at RP0 hPn hPc kp0 op0
                have jl : j < l.length := by rw [ML.out]; exact hjt
                obtain ⟨g2, o2, e4, hg2', hc2⟩ := HR.out.at hjt
                subst e4
                have fj := CN.out j hjt
                obtain ⟨xj, hxj⟩ : ∃ xj, l.getD j 0 = xj := ⟨_, rfl⟩
                have PJ := Lib.hid (fun W (h : Below w2.heap.size w2 W) => keepc h (by have z := hc2 j hjt; rw [hxj] at z; exact z))
                rw [hxj] at fj
                have TK : Hid (l.take (j + 1) = l.take j ++ [xj]) := Lib.hid (by
                  rw [List.take_add_one, List.getElem?_eq_getElem jl]
                  rw [List.getD_eq_getElem?_getD, List.getElem?_eq_getElem jl] at hxj
                  rw [← hxj]; rfl)
                have LENJ := Lib.hid lenj
                have kp := Lib.hid kp0
                have OP := Lib.hid op0
                have FJ := Lib.hid (fun W (h2 : Below w2.heap.size w2 W) (h : Below wr.heap.size wr W) => FI.out ax sd aP j dP (l.take j) xj W (HB0.out.trans (h2.mono HB0.out.size)) (RP0.keep h) (by omega))
                rw [fj] at FJ
                clear hc2 hxj fj kp0 op0 RP0 lenj jl
                go_upto_region 13 with fail
                refine wp_region_rel (by kernel_rfl) [48, 49, 50, 51, 52, 53, 54, 55, 56, 57, 58, 59] ?Fr3 ?hFr3
                  (fun L u W => Below wr.heap.size wr W ∧ (L 0 = true → u 48 = .agg #[.slice pa1 n1 c1, .slice pa2 n2 c2, .slice pa3 n3 c3, .slice pa4 n4 c4]) ∧ (L 1 = true → u 49 = .agg #[.int .i64 ax, .int .i64 sd, .slice aP j dP]) ∧ (L 2 = true → u 50 = .slice (some ⟨b, o, none⟩) k d2) ∧ (L 3 = true → u 51 = .int .i64 (i : Int)) ∧ (L 4 = true → u 52 = .pointer (some ⟨b, o + i * 3, none⟩)) ∧ (L 5 = true → u 53 = .pointer (some ⟨b, o + i * 3 + 2, none⟩)) ∧ (L 6 = true → u 54 = .slice (some ⟨g2, o2, none⟩) m ct) ∧ (L 7 = true → u 55 = .int .i64 (j : Int)) ∧ (L 8 = true → u 56 = .pointer (some ⟨g2, o2 + j, none⟩)) ∧ (L 9 = true → u 57 = .int .i64 xj) ∧ (L 10 = true → u 58 = .bool true) ∧ (L 11 = true → u 59 = .bool false)) (by kernel_rfl) (by kernel_rfl) 12 rfl ?h0r3 ?stepr3 ?finr3
                case hFr3 => intro u; simp only [putAll, Act.put, List.setIfInBounds_toArray, List.set]; exact rfl
                case h0r3 => intro L u hL; exact ⟨(Below.refl _ _).drew, (fun h => by simp [hL] at h), (fun h => by simp [hL] at h), (fun h => by simp [hL] at h), (fun h => by simp [hL] at h), (fun h => by simp [hL] at h), (fun h => by simp [hL] at h), (fun h => by simp [hL] at h), (fun h => by simp [hL] at h), (fun h => by simp [hL] at h), (fun h => by simp [hL] at h), (fun h => by simp [hL] at h), (fun h => by simp [hL] at h)⟩
                case stepr3 =>
                  refine ops_all (ops_cons ?s0r3 (ops_cons ?s1r3 (ops_cons ?s2r3 (ops_cons ?s3r3 (ops_cons ?s4r3 (ops_cons ?s5r3 (ops_cons ?s6r3 (ops_cons ?s7r3 (ops_cons ?s8r3 (ops_cons ?s9r3 (ops_cons ?s10r3 (ops_cons ?s11r3 (ops_nil)))))))))))))
                  case s0r3 =>
                    rintro L u W ⟨hB, c0, c1, c2, c3, c4, c5, c6, c7, c8, c9, c10, c11⟩ hf hd K hK
                    dsimp only at hK
                    have t0 := (km.out.keep hB).cell (i := 0) rfl
                    have t1 := (km.out.keep hB).cell (i := 1) rfl
                    have t2 := (km.out.keep hB).cell (i := 2) rfl
                    have t3 := (km.out.keep hB).cell (i := 3) rfl
                    clear hd
                    go_simp
                    refine hK _ _ ?_ (fun h => by cases h)
                    intro s hs
                    cases hs
                    exact ⟨hB, (fun _ => rfl), c1, c2, c3, c4, c5, c6, c7, c8, c9, c10, c11⟩
                  case s1r3 =>
                    rintro L u W ⟨hB, c0, c1, c2, c3, c4, c5, c6, c7, c8, c9, c10, c11⟩ hf hd K hK
                    dsimp only at hK
                    have t0 := (kp.out.keep hB).cell (i := 0) rfl
                    have t1 := (kp.out.keep hB).cell (i := 1) rfl
                    have t2 := (kp.out.keep hB).cell (i := 2) rfl
                    clear hd
                    go_simp
                    refine hK _ _ ?_ (fun h => by cases h)
                    intro s hs
                    cases hs
                    exact ⟨hB, c0, (fun _ => rfl), c2, c3, c4, c5, c6, c7, c8, c9, c10, c11⟩
                  case s2r3 =>
                    rintro L u W ⟨hB, c0, c1, c2, c3, c4, c5, c6, c7, c8, c9, c10, c11⟩ hf hd K hK
                    dsimp only at hK
                    clear hd
                    go_simp
                    refine hK _ _ ?_ (fun h => by cases h)
                    intro s hs
                    cases hs
                    exact ⟨hB, c0, c1, (fun _ => rfl), c3, c4, c5, c6, c7, c8, c9, c10, c11⟩
                  case s3r3 =>
                    rintro L u W ⟨hB, c0, c1, c2, c3, c4, c5, c6, c7, c8, c9, c10, c11⟩ hf hd K hK
                    dsimp only at hK
                    clear hd
                    go_simp
                    refine hK _ _ ?_ (fun h => by cases h)
                    intro s hs
                    cases hs
                    exact ⟨hB, c0, c1, c2, (fun _ => rfl), c4, c5, c6, c7, c8, c9, c10, c11⟩
                  case s4r3 =>
                    rintro L u W ⟨hB, c0, c1, c2, c3, c4, c5, c6, c7, c8, c9, c10, c11⟩ hf hd K hK
                    dsimp only at hK
                    have hd2 : L 2 = true := (by first | (refine hd ⟨2, .data⟩ ?_ rfl; simp; done) | (refine hd ⟨2, .guard⟩ ?_ rfl; simp; done) | (refine hd ⟨2, .phase⟩ ?_ rfl; simp; done) | (refine hd ⟨2, .chain⟩ ?_ rfl; simp; done))
                    have hd3 : L 3 = true := (by first | (refine hd ⟨3, .data⟩ ?_ rfl; simp; done) | (refine hd ⟨3, .guard⟩ ?_ rfl; simp; done) | (refine hd ⟨3, .phase⟩ ?_ rfl; simp; done) | (refine hd ⟨3, .chain⟩ ?_ rfl; simp; done))
                    have e2 := c2 hd2
                    rw [e2] at hK
                    have e3 := c3 hd3
                    rw [e3] at hK
                    clear hd2
                    clear hd3
                    clear hd
                    go_simp
                    refine hK _ _ ?_ (fun h => by cases h)
                    intro s hs
                    cases hs
                    exact ⟨hB, c0, c1, c2, c3, (fun _ => rfl), c5, c6, c7, c8, c9, c10, c11⟩
                  case s5r3 =>
                    rintro L u W ⟨hB, c0, c1, c2, c3, c4, c5, c6, c7, c8, c9, c10, c11⟩ hf hd K hK
                    dsimp only at hK
                    have hd4 : L 4 = true := (by first | (refine hd ⟨4, .data⟩ ?_ rfl; simp; done) | (refine hd ⟨4, .guard⟩ ?_ rfl; simp; done) | (refine hd ⟨4, .phase⟩ ?_ rfl; simp; done) | (refine hd ⟨4, .chain⟩ ?_ rfl; simp; done))
                    have e4 := c4 hd4
                    rw [e4] at hK
                    clear hd4
                    clear hd
                    go_simp
                    refine hK _ _ ?_ (fun h => by cases h)
                    intro s hs
                    cases hs
                    exact ⟨hB, c0, c1, c2, c3, c4, (fun _ => rfl), c6, c7, c8, c9, c10, c11⟩
                  case s6r3 =>
                    rintro L u W ⟨hB, c0, c1, c2, c3, c4, c5, c6, c7, c8, c9, c10, c11⟩ hf hd K hK
                    dsimp only at hK
                    have hd5 : L 5 = true := (by first | (refine hd ⟨5, .data⟩ ?_ rfl; simp; done) | (refine hd ⟨5, .guard⟩ ?_ rfl; simp; done) | (refine hd ⟨5, .phase⟩ ?_ rfl; simp; done) | (refine hd ⟨5, .chain⟩ ?_ rfl; simp; done))
                    have e5 := c5 hd5
                    rw [e5] at hK
                    have t0 := keepc (BX.out.trans (hB.mono BX.out.size)) HZ.out
                    clear hd5
                    clear hd
                    go_simp
                    refine hK _ _ ?_ (fun h => by cases h)
                    intro s hs
                    cases hs
                    exact ⟨hB, c0, c1, c2, c3, c4, c5, (fun _ => rfl), c7, c8, c9, c10, c11⟩
                  case s7r3 =>
                    rintro L u W ⟨hB, c0, c1, c2, c3, c4, c5, c6, c7, c8, c9, c10, c11⟩ hf hd K hK
                    dsimp only at hK
                    clear hd
                    go_simp
                    refine hK _ _ ?_ (fun h => by cases h)
                    intro s hs
                    cases hs
                    exact ⟨hB, c0, c1, c2, c3, c4, c5, c6, (fun _ => rfl), c8, c9, c10, c11⟩
                  case s8r3 =>
                    rintro L u W ⟨hB, c0, c1, c2, c3, c4, c5, c6, c7, c8, c9, c10, c11⟩ hf hd K hK
                    dsimp only at hK
                    have hd6 : L 6 = true := (by first | (refine hd ⟨6, .data⟩ ?_ rfl; simp; done) | (refine hd ⟨6, .guard⟩ ?_ rfl; simp; done) | (refine hd ⟨6, .phase⟩ ?_ rfl; simp; done) | (refine hd ⟨6, .chain⟩ ?_ rfl; simp; done))
                    have hd7 : L 7 = true := (by first | (refine hd ⟨7, .data⟩ ?_ rfl; simp; done) | (refine hd ⟨7, .guard⟩ ?_ rfl; simp; done) | (refine hd ⟨7, .phase⟩ ?_ rfl; simp; done) | (refine hd ⟨7, .chain⟩ ?_ rfl; simp; done))
                    have e6 := c6 hd6
                    rw [e6] at hK
                    have e7 := c7 hd7
                    rw [e7] at hK
                    clear hd6
                    clear hd7
                    clear hd
                    go_simp
                    refine hK _ _ ?_ (fun h => by cases h)
                    intro s hs
                    cases hs
                    exact ⟨hB, c0, c1, c2, c3, c4, c5, c6, c7, (fun _ => rfl), c9, c10, c11⟩
                  case s9r3 =>
                    rintro L u W ⟨hB, c0, c1, c2, c3, c4, c5, c6, c7, c8, c9, c10, c11⟩ hf hd K hK
                    dsimp only at hK
                    have hd8 : L 8 = true := (by first | (refine hd ⟨8, .data⟩ ?_ rfl; simp; done) | (refine hd ⟨8, .guard⟩ ?_ rfl; simp; done) | (refine hd ⟨8, .phase⟩ ?_ rfl; simp; done) | (refine hd ⟨8, .chain⟩ ?_ rfl; simp; done))
                    have e8 := c8 hd8
                    rw [e8] at hK
                    have t0 := PJ.out _ (BX.out.trans (hB.mono BX.out.size))
                    clear hd8
                    clear hd
                    go_simp
                    refine hK _ _ ?_ (fun h => by cases h)
                    intro s hs
                    cases hs
                    exact ⟨hB, c0, c1, c2, c3, c4, c5, c6, c7, c8, (fun _ => rfl), c10, c11⟩
                  case s10r3 =>
                    rintro L u W ⟨hB, c0, c1, c2, c3, c4, c5, c6, c7, c8, c9, c10, c11⟩ hf hd K hK
                    dsimp only at hK
                    have hd0 : L 0 = true := (by first | (refine hd ⟨0, .data⟩ ?_ rfl; simp; done) | (refine hd ⟨0, .guard⟩ ?_ rfl; simp; done) | (refine hd ⟨0, .phase⟩ ?_ rfl; simp; done) | (refine hd ⟨0, .chain⟩ ?_ rfl; simp; done))
                    have hd1 : L 1 = true := (by first | (refine hd ⟨1, .data⟩ ?_ rfl; simp; done) | (refine hd ⟨1, .guard⟩ ?_ rfl; simp; done) | (refine hd ⟨1, .phase⟩ ?_ rfl; simp; done) | (refine hd ⟨1, .chain⟩ ?_ rfl; simp; done))
                    have hd9 : L 9 = true := (by first | (refine hd ⟨9, .data⟩ ?_ rfl; simp; done) | (refine hd ⟨9, .guard⟩ ?_ rfl; simp; done) | (refine hd ⟨9, .phase⟩ ?_ rfl; simp; done) | (refine hd ⟨9, .chain⟩ ?_ rfl; simp; done))
                    have e0 := c0 hd0
                    rw [e0] at hK
                    have e1 := c1 hd1
                    rw [e1] at hK
                    have e9 := c9 hd9
                    rw [e9] at hK
                    clear hd0
                    clear hd1
                    clear hd9
                    clear hd
                    go_simp
                    go_wp2_with (go_at_call 16; ((with_reducible refine (FJ.out _ (BX.out.trans (hB.mono BX.out.size)) hB).mono ?_); rintro e w5 ⟨rfl, hb⟩))
                    refine hK _ _ ?_ (fun h => by cases h)
                    intro s hs
                    cases hs
                    exact ⟨hB.trans (hb.mono hB.size), c0, c1, c2, c3, c4, c5, c6, c7, c8, c9, (fun _ => rfl), c11⟩
                  case s11r3 =>
                    rintro L u W ⟨hB, c0, c1, c2, c3, c4, c5, c6, c7, c8, c9, c10, c11⟩ hf hd K hK
                    dsimp only at hK
                    have hd10 : L 10 = true := (by first | (refine hd ⟨10, .data⟩ ?_ rfl; simp; done) | (refine hd ⟨10, .guard⟩ ?_ rfl; simp; done) | (refine hd ⟨10, .phase⟩ ?_ rfl; simp; done) | (refine hd ⟨10, .chain⟩ ?_ rfl; simp; done))
                    have e10 := c10 hd10
                    rw [e10] at hK
                    clear hd10
                    clear hd
                    go_simp
                    refine hK _ _ ?_ (fun h => by cases h)
                    intro s hs
                    cases hs
                    exact ⟨hB, c0, c1, c2, c3, c4, c5, c6, c7, c8, c9, c10, (fun _ => rfl)⟩
                case finr3 =>
                  rintro L u W hL ⟨hB, c0, c1, c2, c3, c4, c5, c6, c7, c8, c9, c10, c11⟩
                  have e0 := c0 (hL 0 (by decide))
                  have e1 := c1 (hL 1 (by decide))
                  have e2 := c2 (hL 2 (by decide))
                  have e3 := c3 (hL 3 (by decide))
                  have e4 := c4 (hL 4 (by decide))
                  have e5 := c5 (hL 5 (by decide))
                  have e6 := c6 (hL 6 (by decide))
                  have e7 := c7 (hL 7 (by decide))
                  have e8 := c8 (hL 8 (by decide))
                  have e9 := c9 (hL 9 (by decide))
                  have e10 := c10 (hL 10 (by decide))
                  have e11 := c11 (hL 11 (by decide))
                  clear hL c0 c1 c2 c3 c4 c5 c6 c7 c8 c9 c10 c11
                  try simp only [e0, e1, e2, e3, e4, e5, e6, e7, e8, e9, e10, e11]
                  clear e0 e1 e2 e3 e4 e5 e6 e7 e8 e9 e10 e11
                  have BY := Lib.hid (BX.out.trans (hB.mono BX.out.size))
                  have h7 : B6 ≤ W.heap.size := Nat.le_trans h6 hB.size
                  have kp1 := kp.out.keep hB
                  have op1 := OP.out.keep hB
                  clear kp OP km FJ BX h6 hB
                  generalize W = wy at *
                  go_upto_region 15 with fail
                  have hbound : g11 ≤ wy.heap.size := by omega
                  have hlt6 : g11 ≤ B6 := Nat.le_of_lt g1
                  refine wp_region_rel2 (by kernel_rfl) [60, 61, 62, 63, 64, 65, 66, 67, 68, 69, 70, 71, 72] ?Fr1 ?hFr1
                    (fun L u W => Below g11 wy W ∧ (L 0 = true → u 60 = .pointer (some ⟨g11, 2, none⟩)) ∧ (L 1 = true → u 61 = .slice aP j dP) ∧ (L 2 = true → u 62 = .slice (some ⟨b, o, none⟩) k d2) ∧ (L 3 = true → u 63 = .int .i64 (i : Int)) ∧ (L 4 = true → u 64 = .pointer (some ⟨b, o + i * 3, none⟩)) ∧ (L 5 = true → u 65 = .pointer (some ⟨b, o + i * 3 + 2, none⟩)) ∧ (L 6 = true → u 66 = .slice (some ⟨g2, o2, none⟩) m ct) ∧ (L 7 = true → u 67 = .int .i64 (j : Int)) ∧ (L 8 = true → u 68 = .pointer (some ⟨g2, o2 + j, none⟩)) ∧ (L 9 = true → u 69 = .int .i64 xj) ∧ (L 10 = true → L 11 = false → RowAt W (u 70) 1 3 #[.int .i64 xj]) ∧ (L 11 = true → L 13 = false → OwnI W B6 (u 71) (l.take (j + 1))) ∧ (L 12 = true → u 72 = .pointer (some ⟨g11, 2, none⟩)) ∧ (L 13 = true → PaK W g11 B6 ax sd (l.take (j + 1))) ∧ (L 13 = false → Lok W g11 36 #[.int .i64 ax, .int .i64 sd, .slice aP j dP]) ∧ (L 11 = false → OwnI W B6 (.slice aP j dP) (l.take j)) ∧ (L 13 = false → True) ∧ (L 13 = true → L 11 = true) ∧ (L 11 = false → True) ∧ (L 11 = true → L 1 = true)) (by kernel_rfl) (by kernel_rfl) 14 rfl ?h0r1 ?stepr1 ?finr1
                  case hFr1 => intro u; simp only [putAll, Act.put, List.setIfInBounds_toArray, List.set]; exact rfl
                  case h0r1 => intro L hL; exact ⟨(Below.refl _ _).drew, (fun h => by simp [hL] at h), (fun h => by simp [hL] at h), (fun h => by simp [hL] at h), (fun h => by simp [hL] at h), (fun h => by simp [hL] at h), (fun h => by simp [hL] at h), (fun h => by simp [hL] at h), (fun h => by simp [hL] at h), (fun h => by simp [hL] at h), (fun h => by simp [hL] at h), (fun h => by simp [hL] at h), (fun h => by simp [hL] at h), (fun h => by simp [hL] at h), (fun h => by simp [hL] at h), (fun _ => by assumption), (fun _ => by assumption), (fun _ => by first | rfl | trivial), (fun h => by simp [hL] at h), (fun _ => by first | rfl | trivial), (fun h => by simp [hL] at h)⟩
                  case stepr1 =>
                    refine ops_all (ops_cons ?s0r1 (ops_cons ?s1r1 (ops_cons ?s2r1 (ops_cons ?s3r1 (ops_cons ?s4r1 (ops_cons ?s5r1 (ops_cons ?s6r1 (ops_cons ?s7r1 (ops_cons ?s8r1 (ops_cons ?s9r1 (ops_cons ?s10r1 (ops_cons ?s11r1 (ops_cons ?s12r1 (ops_cons ?s13r1 (ops_nil)))))))))))))))
                    case s0r1 =>
                      rintro L u W ⟨hB, c0, c1, c2, c3, c4, c5, c6, c7, c8, c9, c10, c11, c12, c13, pre0, pre1, ini0, id0, ini1, id1⟩ hf hd K hK
                      dsimp only at hK
                      clear hd
                      go_simp
                      refine hK _ _ ?_ (fun h => by cases h)
                      intro s hs
                      cases hs
                      exact ⟨hB, (fun _ => rfl), c1, c2, c3, c4, c5, c6, c7, c8, c9, c10, c11, c12, c13, pre0, pre1, ini0, id0, ini1, id1⟩
                    case s1r1 =>
                      rintro L u W ⟨hB, c0, c1, c2, c3, c4, c5, c6, c7, c8, c9, c10, c11, c12, c13, pre0, pre1, ini0, id0, ini1, id1⟩ hf hd K hK
                      dsimp only at hK
                      have hd0 : L 0 = true := (by first | (refine hd ⟨0, .data⟩ ?_ rfl; simp; done) | (refine hd ⟨0, .guard⟩ ?_ rfl; simp; done) | (refine hd ⟨0, .phase⟩ ?_ rfl; simp; done) | (refine hd ⟨0, .chain⟩ ?_ rfl; simp; done))
                      have e0 := c0 hd0
                      rw [e0] at hK
                      have t0 := (pre0 (by cases h9 : L 13 with | false => rfl | true => rw [id1 (id0 h9)] at hf; cases hf)).cell (i := 2) rfl
                      clear hd0
                      clear hd
                      go_simp
                      refine hK _ _ ?_ (fun h => by cases h)
                      intro s hs
                      cases hs
                      exact ⟨hB, c0, (fun _ => rfl), c2, c3, c4, c5, c6, c7, c8, c9, c10, c11, c12, c13, pre0, pre1, ini0, id0, ini1, (fun _ => rfl)⟩
                    case s2r1 =>
                      rintro L u W ⟨hB, c0, c1, c2, c3, c4, c5, c6, c7, c8, c9, c10, c11, c12, c13, pre0, pre1, ini0, id0, ini1, id1⟩ hf hd K hK
                      dsimp only at hK
                      clear hd
                      go_simp
                      refine hK _ _ ?_ (fun h => by cases h)
                      intro s hs
                      cases hs
                      exact ⟨hB, c0, c1, (fun _ => rfl), c3, c4, c5, c6, c7, c8, c9, c10, c11, c12, c13, pre0, pre1, ini0, id0, ini1, id1⟩
                    case s3r1 =>
                      rintro L u W ⟨hB, c0, c1, c2, c3, c4, c5, c6, c7, c8, c9, c10, c11, c12, c13, pre0, pre1, ini0, id0, ini1, id1⟩ hf hd K hK
                      dsimp only at hK
                      clear hd
                      go_simp
                      refine hK _ _ ?_ (fun h => by cases h)
                      intro s hs
                      cases hs
                      exact ⟨hB, c0, c1, c2, (fun _ => rfl), c4, c5, c6, c7, c8, c9, c10, c11, c12, c13, pre0, pre1, ini0, id0, ini1, id1⟩
                    case s4r1 =>
                      rintro L u W ⟨hB, c0, c1, c2, c3, c4, c5, c6, c7, c8, c9, c10, c11, c12, c13, pre0, pre1, ini0, id0, ini1, id1⟩ hf hd K hK
                      dsimp only at hK
                      have hd2 : L 2 = true := (by first | (refine hd ⟨2, .data⟩ ?_ rfl; simp; done) | (refine hd ⟨2, .guard⟩ ?_ rfl; simp; done) | (refine hd ⟨2, .phase⟩ ?_ rfl; simp; done) | (refine hd ⟨2, .chain⟩ ?_ rfl; simp; done))
                      have hd3 : L 3 = true := (by first | (refine hd ⟨3, .data⟩ ?_ rfl; simp; done) | (refine hd ⟨3, .guard⟩ ?_ rfl; simp; done) | (refine hd ⟨3, .phase⟩ ?_ rfl; simp; done) | (refine hd ⟨3, .chain⟩ ?_ rfl; simp; done))
                      have e2 := c2 hd2
                      rw [e2] at hK
                      have e3 := c3 hd3
                      rw [e3] at hK
                      clear hd2
                      clear hd3
                      clear hd
                      go_simp
                      refine hK _ _ ?_ (fun h => by cases h)
                      intro s hs
                      cases hs
                      exact ⟨hB, c0, c1, c2, c3, (fun _ => rfl), c5, c6, c7, c8, c9, c10, c11, c12, c13, pre0, pre1, ini0, id0, ini1, id1⟩
                    case s5r1 =>
                      rintro L u W ⟨hB, c0, c1, c2, c3, c4, c5, c6, c7, c8, c9, c10, c11, c12, c13, pre0, pre1, ini0, id0, ini1, id1⟩ hf hd K hK
                      dsimp only at hK
                      have hd4 : L 4 = true := (by first | (refine hd ⟨4, .data⟩ ?_ rfl; simp; done) | (refine hd ⟨4, .guard⟩ ?_ rfl; simp; done) | (refine hd ⟨4, .phase⟩ ?_ rfl; simp; done) | (refine hd ⟨4, .chain⟩ ?_ rfl; simp; done))
                      have e4 := c4 hd4
                      rw [e4] at hK
                      clear hd4
                      clear hd
                      go_simp
                      refine hK _ _ ?_ (fun h => by cases h)
                      intro s hs
                      cases hs
                      exact ⟨hB, c0, c1, c2, c3, c4, (fun _ => rfl), c6, c7, c8, c9, c10, c11, c12, c13, pre0, pre1, ini0, id0, ini1, id1⟩
                    case s6r1 =>
                      rintro L u W ⟨hB, c0, c1, c2, c3, c4, c5, c6, c7, c8, c9, c10, c11, c12, c13, pre0, pre1, ini0, id0, ini1, id1⟩ hf hd K hK
                      dsimp only at hK
                      have hd5 : L 5 = true := (by first | (refine hd ⟨5, .data⟩ ?_ rfl; simp; done) | (refine hd ⟨5, .guard⟩ ?_ rfl; simp; done) | (refine hd ⟨5, .phase⟩ ?_ rfl; simp; done) | (refine hd ⟨5, .chain⟩ ?_ rfl; simp; done))
                      have e5 := c5 hd5
                      rw [e5] at hK
                      have t0 := keepc (BY.out.trans (hB.mono hg2)) HZ.out
                      clear hd5
                      clear hd
                      go_simp
                      refine hK _ _ ?_ (fun h => by cases h)
                      intro s hs
                      cases hs
                      exact ⟨hB, c0, c1, c2, c3, c4, c5, (fun _ => rfl), c7, c8, c9, c10, c11, c12, c13, pre0, pre1, ini0, id0, ini1, id1⟩
                    case s7r1 =>
                      rintro L u W ⟨hB, c0, c1, c2, c3, c4, c5, c6, c7, c8, c9, c10, c11, c12, c13, pre0, pre1, ini0, id0, ini1, id1⟩ hf hd K hK
                      dsimp only at hK
                      clear hd
                      go_simp
                      refine hK _ _ ?_ (fun h => by cases h)
                      intro s hs
                      cases hs
                      exact ⟨hB, c0, c1, c2, c3, c4, c5, c6, (fun _ => rfl), c8, c9, c10, c11, c12, c13, pre0, pre1, ini0, id0, ini1, id1⟩
                    case s8r1 =>
                      rintro L u W ⟨hB, c0, c1, c2, c3, c4, c5, c6, c7, c8, c9, c10, c11, c12, c13, pre0, pre1, ini0, id0, ini1, id1⟩ hf hd K hK
                      dsimp only at hK
                      have hd6 : L 6 = true := (by first | (refine hd ⟨6, .data⟩ ?_ rfl; simp; done) | (refine hd ⟨6, .guard⟩ ?_ rfl; simp; done) | (refine hd ⟨6, .phase⟩ ?_ rfl; simp; done) | (refine hd ⟨6, .chain⟩ ?_ rfl; simp; done))
                      have hd7 : L 7 = true := (by first | (refine hd ⟨7, .data⟩ ?_ rfl; simp; done) | (refine hd ⟨7, .guard⟩ ?_ rfl; simp; done) | (refine hd ⟨7, .phase⟩ ?_ rfl; simp; done) | (refine hd ⟨7, .chain⟩ ?_ rfl; simp; done))
                      have e6 := c6 hd6
                      rw [e6] at hK
                      have e7 := c7 hd7
                      rw [e7] at hK
                      clear hd6
                      clear hd7
                      clear hd
                      go_simp
                      refine hK _ _ ?_ (fun h => by cases h)
                      intro s hs
                      cases hs
                      exact ⟨hB, c0, c1, c2, c3, c4, c5, c6, c7, (fun _ => rfl), c9, c10, c11, c12, c13, pre0, pre1, ini0, id0, ini1, id1⟩
                    case s9r1 =>
                      rintro L u W ⟨hB, c0, c1, c2, c3, c4, c5, c6, c7, c8, c9, c10, c11, c12, c13, pre0, pre1, ini0, id0, ini1, id1⟩ hf hd K hK
                      dsimp only at hK
                      have hd8 : L 8 = true := (by first | (refine hd ⟨8, .data⟩ ?_ rfl; simp; done) | (refine hd ⟨8, .guard⟩ ?_ rfl; simp; done) | (refine hd ⟨8, .phase⟩ ?_ rfl; simp; done) | (refine hd ⟨8, .chain⟩ ?_ rfl; simp; done))
                      have e8 := c8 hd8
                      rw [e8] at hK
                      have t0 := PJ.out _ (BY.out.trans (hB.mono hg2))
                      clear hd8
                      clear hd
                      go_simp
                      refine hK _ _ ?_ (fun h => by cases h)
                      intro s hs
                      cases hs
                      exact ⟨hB, c0, c1, c2, c3, c4, c5, c6, c7, c8, (fun _ => rfl), c10, c11, c12, c13, pre0, pre1, ini0, id0, ini1, id1⟩
                    case s10r1 =>
                      rintro L u W ⟨hB, c0, c1, c2, c3, c4, c5, c6, c7, c8, c9, c10, c11, c12, c13, pre0, pre1, ini0, id0, ini1, id1⟩ hf hd K hK
                      dsimp only at hK
                      have hd9 : L 9 = true := (by first | (refine hd ⟨9, .data⟩ ?_ rfl; simp; done) | (refine hd ⟨9, .guard⟩ ?_ rfl; simp; done) | (refine hd ⟨9, .phase⟩ ?_ rfl; simp; done) | (refine hd ⟨9, .chain⟩ ?_ rfl; simp; done))
                      have e9 := c9 hd9
                      rw [e9] at hK
                      clear hd9
                      clear hd
                      go_simp
                      have hb : Below W.heap.size W (W.alloc (.cells #[.int .i64 xj] 3)) := (Below.refl _ W).alloc (Nat.le_refl _) _
                      refine hK _ _ ?_ (fun h => by cases h)
                      intro s hs
                      cases hs
                      exact ⟨hB.trans (hb.mono (Nat.le_trans hbound hB.size)), c0, c1, c2, c3, c4, c5, c6, c7, c8, c9, (fun _ _ => ⟨_, rfl, Lok.new _ _ _⟩), (fun h k => (c11 h k).keep hb), c12, (fun h => (c13 h).keep hb), (fun h => (pre0 h).keep hb), (fun h => (pre1 h).keep hb), ini0, id0, ini1, id1⟩
                    case s11r1 =>
                      rintro L u W ⟨hB, c0, c1, c2, c3, c4, c5, c6, c7, c8, c9, c10, c11, c12, c13, pre0, pre1, ini0, id0, ini1, id1⟩ hf hd K hK
                      dsimp only at hK
                      have hdi1 : L 1 = true := (by first | (refine hd ⟨1, .data⟩ ?_ rfl; simp; done) | (refine hd ⟨1, .phase⟩ ?_ rfl; simp; done) | (refine hd ⟨1, .chain⟩ ?_ rfl; simp; done))
                      replace hdi1 := Lib.hid hdi1
                      have hd1 : L 1 = true := (by first | (refine hd ⟨1, .data⟩ ?_ rfl; simp; done) | (refine hd ⟨1, .guard⟩ ?_ rfl; simp; done) | (refine hd ⟨1, .phase⟩ ?_ rfl; simp; done) | (refine hd ⟨1, .chain⟩ ?_ rfl; simp; done))
                      have hd10 : L 10 = true := (by first | (refine hd ⟨10, .data⟩ ?_ rfl; simp; done) | (refine hd ⟨10, .guard⟩ ?_ rfl; simp; done) | (refine hd ⟨10, .phase⟩ ?_ rfl; simp; done) | (refine hd ⟨10, .chain⟩ ?_ rfl; simp; done))
                      have e1 := c1 hd1
                      have e10 := c10 hd10 (by first | exact hf | assumption)
                      clear hd1
                      clear hd10
                      clear hd
                      refine Eq.mpr (if_pos rfl) ?_
                      obtain ⟨g5, eg, lg⟩ := e10
                      refine app_act _ _ 34 3 _ 1 8 Try.underlying34 infoI rfl (by decide) rfl B6 (.slice aP j dP) j ((l.take j).map (Value.int .i64)) _ rfl (fun u hu => by simp at hu; rw [hu]; rfl) e1 (by have z := pre1 hf; unfold OwnI at z; rwa [LENJ.out] at z) g5 1 eg lg (by omega) (by omega) (Nat.le_trans h7 hB.size) ?_
                      intro v5 W5 q' hb'
                      have q : OwnI W5 B6 v5 (l.take (j + 1)) := by unfold OwnI; rw [TK.out, List.length_append, LENJ.out, List.map_append]; exact q'
                      have hb : Below g11 W W5 := hb'.mono hlt6
                      have hk0 := fun (h : Lok W g11 36 #[.int .i64 ax, .int .i64 sd, .slice aP j dP]) => h.keepB hb' g1
                      refine hK _ _ ?_ (fun h => by cases h)
                      intro s hs
                      cases hs
                      exact ⟨hB.trans hb, c0, (fun h => by first | rfl | exact c1 h), c2, c3, c4, c5, c6, c7, c8, c9, (fun _ h => by cases h), (fun _ _ => q), c12, (fun h => by have z := id0 h; rw [hf] at z; cases z), (fun h => hk0 (pre0 h)), (fun h => by cases h), ini0, (fun _ => rfl), (fun h => by cases h), (fun _ => hdi1.out)⟩
                    case s12r1 =>
                      rintro L u W ⟨hB, c0, c1, c2, c3, c4, c5, c6, c7, c8, c9, c10, c11, c12, c13, pre0, pre1, ini0, id0, ini1, id1⟩ hf hd K hK
                      dsimp only at hK
                      clear hd
                      go_simp
                      refine hK _ _ ?_ (fun h => by cases h)
                      intro s hs
                      cases hs
                      exact ⟨hB, c0, c1, c2, c3, c4, c5, c6, c7, c8, c9, c10, c11, (fun _ => rfl), c13, pre0, pre1, ini0, id0, ini1, id1⟩
                    case s13r1 =>
                      rintro L u W ⟨hB, c0, c1, c2, c3, c4, c5, c6, c7, c8, c9, c10, c11, c12, c13, pre0, pre1, ini0, id0, ini1, id1⟩ hf hd K hK
                      dsimp only at hK
                      have hdi0 : L 11 = true := (by first | (refine hd ⟨11, .data⟩ ?_ rfl; simp; done) | (refine hd ⟨11, .phase⟩ ?_ rfl; simp; done) | (refine hd ⟨11, .chain⟩ ?_ rfl; simp; done))
                      replace hdi0 := Lib.hid hdi0
                      have hd11 : L 11 = true := (by first | (refine hd ⟨11, .data⟩ ?_ rfl; simp; done) | (refine hd ⟨11, .guard⟩ ?_ rfl; simp; done) | (refine hd ⟨11, .phase⟩ ?_ rfl; simp; done) | (refine hd ⟨11, .chain⟩ ?_ rfl; simp; done))
                      have hd12 : L 12 = true := (by first | (refine hd ⟨12, .data⟩ ?_ rfl; simp; done) | (refine hd ⟨12, .guard⟩ ?_ rfl; simp; done) | (refine hd ⟨12, .phase⟩ ?_ rfl; simp; done) | (refine hd ⟨12, .chain⟩ ?_ rfl; simp; done))
                      have e11 := c11 hd11 (by first | exact hf | assumption)
                      have e12 := c12 hd12
                      have hdx11 := Lib.hid hd11
                      clear hd11
                      clear hd12
                      clear hd
                      obtain ⟨aQ, nQ, cQ, eQ⟩ := ownI_slc e11
                      rw [e12] at hK
                      rw [eQ] at hK e11
                      have k0 := Lib.hid (pre0 hf)
                      have O7 := Lib.hid e11
                      have t0 := k0.out.cell (i := 2) rfl
                      have f0 := k0.out.frozen 2
                      clear e11
                      go_simp
                      have hb : Below g11 W (W.setCell ⟨g11, 2, none⟩ (.slice aQ nQ cQ)) := (Below.refl _ W).setCell (p := ⟨g11, 2, none⟩) (Nat.le_refl _) _
                      have q : PaK (W.setCell ⟨g11, 2, none⟩ (.slice aQ nQ cQ)) g11 B6 ax sd (l.take (j + 1)) := ⟨_, k0.out.set (i := 2), ownsRow_setCell_below O7.out (a := ⟨g11, 2, none⟩) g1 _⟩
                      have hk1 := fun (h : OwnI W B6 (.slice aP j dP) (l.take j)) => (ownsRow_setCell_below h (a := ⟨g11, 2, none⟩) g1 (.slice aQ nQ cQ) : OwnI _ B6 (.slice aP j dP) (l.take j))
                      refine hK undef _ (fun s h => by cases h) (fun _ => ?_)
                      exact ⟨hB.trans hb, c0, c1, c2, c3, c4, c5, c6, c7, c8, c9, (fun _ h => by have z := hdx11.out; rw [show L 11 = false from h] at z; cases z), (fun _ h => by cases h), (fun h => by first | rfl | exact c12 h), (fun _ => q), (fun h => by cases h), (fun h => hk1 (pre1 h)), (fun h => by cases h), (fun _ => hdi0.out), ini1, id1⟩
                  case finr1 =>
                    rintro L u W hL ⟨hB, c0, c1, c2, c3, c4, c5, c6, c7, c8, c9, c10, c11, c12, c13, pre0, pre1, ini0, id0, ini1, id1⟩
                    have e0 := c0 (hL 0 (by decide))
                    have e1 := c1 (hL 1 (by decide))
                    have e2 := c2 (hL 2 (by decide))
                    have e3 := c3 (hL 3 (by decide))
                    have e4 := c4 (hL 4 (by decide))
                    have e5 := c5 (hL 5 (by decide))
                    have e6 := c6 (hL 6 (by decide))
                    have e7 := c7 (hL 7 (by decide))
                    have e8 := c8 (hL 8 (by decide))
                    have e9 := c9 (hL 9 (by decide))
                    have e12 := c12 (hL 12 (by decide))
                    have kq13 := c13 (hL 13 (by decide))
                    clear hL c0 c1 c2 c3 c4 c5 c6 c7 c8 c9 c10 c11 c12 c13 pre0 pre1 ini0 id0 ini1 id1
                    try simp only [e0, e1, e2, e3, e4, e5, e6, e7, e8, e9, e12]
                    clear e0 e1 e2 e3 e4 e5 e6 e7 e8 e9 e12
                    have P1 := Lib.hid kq13
                    have BZ := Lib.hid (BY.out.trans (hB.mono hg2))
                    have h8 := Nat.le_trans h7 hB.size
                    clear kq13 BY hB kp1 op1 LENJ TK PJ
                    go_wp2
                    go_roundw
                    case rel => exact ⟨j + 1, by go_num, hjt, P1.out, BZ.out, h8⟩
                    case measure => simp [intOf]; omega
              · obtain rfl : m = j := by omega
                clear hP hj
                go_wp2_with fail
                clear hz
                go_loopw [8] (fun x wv => ∃ n : Nat, x = .int .i64 n ∧ i < n ∧ n ≤ k ∧ Below w2.heap.size w2 wv) (fun x _ => k - (intOf x).toNat)
                case atStart => exact ⟨i + 1, by go_num, Nat.lt_succ_self i, hlt, BX.out⟩
                case round =>
                  clear BX
                  obtain ⟨n, rfl, hin, hn, hB⟩ := hrel
                  have BX := Lib.hid hB
                  clear hB
                  by_cases hnt : n < k
                  · have n0 : (0 : Int) ≤ (n : Int) := by omega
                    have n1' : (n : Int) < (k : Int) := by omega
                    have n2' : ((n : Int)).toNat = n := by omega
                    obtain ⟨b', o', t', m', ct', ax', sd', l', e2', hb', hL', hx', hy', hz', hr', htn', hmc', hcm'⟩ := R2.out.at hnt
                    cases e2'
                    have NO := Lib.hid (LT.out n _ hL' hin)
                    have tl' := TLN.out _ (List.mem_of_getElem? hL')
                    dsimp only at NO tl'
                    have ml' := hr'.1
                    rw [ml'] at tl'
                    rw [← Nat.add_assoc] at hz'
                    have HZ' := Lib.hid hz'
                    have HR' := Lib.hid hr'
                    have ML' := Lib.hid ml'
                    clear hL' hx' hy' hz' hr' htn' hcm' ml' hmc'
                    go_wp2_with fail
                    go_loopw [9] (fun x wv => ∃ p : Nat, x = .int .i64 p ∧ p ≤ m' ∧ Below w2.heap.size w2 wv) (fun x _ => m' - (intOf x).toNat)
                    case atStart => exact ⟨0, rfl, Nat.zero_le _, BX.out⟩
                    case round =>
                      clear BX
                      obtain ⟨p, rfl, hp, hB⟩ := hrel
                      have BX := Lib.hid hB
                      clear hB
                      have km := Lib.hid (km0.out.keep BX.out)
                      have hz := keepc BX.out HZ'.out
                      by_cases hpt : p < m'
                      · have p0 : (0 : Int) ≤ (p : Int) := by omega
                        have p1 : (p : Int) < (m' : Int) := by omega
                        have p2 : ((p : Int)).toNat = p := by omega
                        obtain ⟨g3, o3, e4, hg3, hc3⟩ := HR'.out.at hpt
                        subst e4
                        have fj := NO.out (l'.getD p 0) (by rw [List.getD_eq_getElem?_getD, List.getElem?_eq_getElem (show p < l'.length by rw [ML'.out]; exact hpt)]; exact List.getElem_mem _)
                        obtain ⟨xp, hxp⟩ : ∃ xp, l'.getD p 0 = xp := ⟨_, rfl⟩
                        have PJ := Lib.hid (fun W (h : Below w2.heap.size w2 W) => keepc h (by have z := hc3 p hpt; rw [hxp] at z; exact z))
                        rw [hxp] at fj
                        have FJ := Lib.hid (fun W (h2 : Below w2.heap.size w2 W) => FI.out ax sd t m ct l xp W (HB0.out.trans (h2.mono HB0.out.size)) (HR.out.keep h2) (by omega))
                        rw [fj] at FJ
                        clear hc3 hxp fj
                        go_upto_region 22 with fail
                        refine wp_region_rel (by kernel_rfl) [91, 92, 93, 94, 95, 96, 97, 98, 99, 100, 101, 102, 103, 104] ?Fr2 ?hFr2
                          (fun L u W => Below wr.heap.size wr W ∧ (L 0 = true → u 91 = .agg #[.slice pa1 n1 c1, .slice pa2 n2 c2, .slice pa3 n3 c3, .slice pa4 n4 c4]) ∧ (L 1 = true → u 92 = .slice (some ⟨b, o, none⟩) k d2) ∧ (L 2 = true → u 93 = .int .i64 (i : Int)) ∧ (L 3 = true → u 94 = .pointer (some ⟨b, o + i * 3, none⟩)) ∧ (L 4 = true → u 95 = .agg #[.int .i64 ax, .int .i64 sd, .slice t m ct]) ∧ (L 5 = true → u 96 = .slice (some ⟨b, o, none⟩) k d2) ∧ (L 6 = true → u 97 = .int .i64 (n : Int)) ∧ (L 7 = true → u 98 = .pointer (some ⟨b, o + n * 3, none⟩)) ∧ (L 8 = true → u 99 = .pointer (some ⟨b, o + n * 3 + 2, none⟩)) ∧ (L 9 = true → u 100 = .slice (some ⟨g3, o3, none⟩) m' ct') ∧ (L 10 = true → u 101 = .int .i64 (p : Int)) ∧ (L 11 = true → u 102 = .pointer (some ⟨g3, o3 + p, none⟩)) ∧ (L 12 = true → u 103 = .int .i64 xp) ∧ (L 13 = true → u 104 = .bool false)) (by kernel_rfl) (by kernel_rfl) 14 rfl ?h0r2 ?stepr2 ?finr2
                        case hFr2 => intro u; simp only [putAll, Act.put, List.setIfInBounds_toArray, List.set]; exact rfl
                        case h0r2 => intro L u hL; exact ⟨(Below.refl _ _).drew, (fun h => by simp [hL] at h), (fun h => by simp [hL] at h), (fun h => by simp [hL] at h), (fun h => by simp [hL] at h), (fun h => by simp [hL] at h), (fun h => by simp [hL] at h), (fun h => by simp [hL] at h), (fun h => by simp [hL] at h), (fun h => by simp [hL] at h), (fun h => by simp [hL] at h), (fun h => by simp [hL] at h), (fun h => by simp [hL] at h), (fun h => by simp [hL] at h), (fun h => by simp [hL] at h)⟩
                        case stepr2 =>
                          refine ops_all (ops_cons ?s0r2 (ops_cons ?s1r2 (ops_cons ?s2r2 (ops_cons ?s3r2 (ops_cons ?s4r2 (ops_cons ?s5r2 (ops_cons ?s6r2 (ops_cons ?s7r2 (ops_cons ?s8r2 (ops_cons ?s9r2 (ops_cons ?s10r2 (ops_cons ?s11r2 (ops_cons ?s12r2 (ops_cons ?s13r2 (ops_nil)))))))))))))))
                          case s0r2 =>
                            rintro L u W ⟨hB, c0, c1, c2, c3, c4, c5, c6, c7, c8, c9, c10, c11, c12, c13⟩ hf hd K hK
                            dsimp only at hK
                            have t0 := (km.out.keep hB).cell (i := 0) rfl
                            have t1 := (km.out.keep hB).cell (i := 1) rfl
                            have t2 := (km.out.keep hB).cell (i := 2) rfl
                            have t3 := (km.out.keep hB).cell (i := 3) rfl
                            clear hd
                            go_simp
                            refine hK _ _ ?_ (fun h => by cases h)
                            intro s hs
                            cases hs
                            exact ⟨hB, (fun _ => rfl), c1, c2, c3, c4, c5, c6, c7, c8, c9, c10, c11, c12, c13⟩
                          case s1r2 =>
                            rintro L u W ⟨hB, c0, c1, c2, c3, c4, c5, c6, c7, c8, c9, c10, c11, c12, c13⟩ hf hd K hK
                            dsimp only at hK
                            clear hd
                            go_simp
                            refine hK _ _ ?_ (fun h => by cases h)
                            intro s hs
                            cases hs
                            exact ⟨hB, c0, (fun _ => rfl), c2, c3, c4, c5, c6, c7, c8, c9, c10, c11, c12, c13⟩
                          case s2r2 =>
                            rintro L u W ⟨hB, c0, c1, c2, c3, c4, c5, c6, c7, c8, c9, c10, c11, c12, c13⟩ hf hd K hK
                            dsimp only at hK
                            clear hd
                            go_simp
                            refine hK _ _ ?_ (fun h => by cases h)
                            intro s hs
                            cases hs
                            exact ⟨hB, c0, c1, (fun _ => rfl), c3, c4, c5, c6, c7, c8, c9, c10, c11, c12, c13⟩
                          case s3r2 =>
                            rintro L u W ⟨hB, c0, c1, c2, c3, c4, c5, c6, c7, c8, c9, c10, c11, c12, c13⟩ hf hd K hK
                            dsimp only at hK
                            have hd1 : L 1 = true := (by first | (refine hd ⟨1, .data⟩ ?_ rfl; simp; done) | (refine hd ⟨1, .guard⟩ ?_ rfl; simp; done) | (refine hd ⟨1, .phase⟩ ?_ rfl; simp; done) | (refine hd ⟨1, .chain⟩ ?_ rfl; simp; done))
                            have hd2 : L 2 = true := (by first | (refine hd ⟨2, .data⟩ ?_ rfl; simp; done) | (refine hd ⟨2, .guard⟩ ?_ rfl; simp; done) | (refine hd ⟨2, .phase⟩ ?_ rfl; simp; done) | (refine hd ⟨2, .chain⟩ ?_ rfl; simp; done))
                            have e1 := c1 hd1
                            rw [e1] at hK
                            have e2 := c2 hd2
                            rw [e2] at hK
                            clear hd1
                            clear hd2
                            clear hd
                            go_simp
                            refine hK _ _ ?_ (fun h => by cases h)
                            intro s hs
                            cases hs
                            exact ⟨hB, c0, c1, c2, (fun _ => rfl), c4, c5, c6, c7, c8, c9, c10, c11, c12, c13⟩
                          case s4r2 =>
                            rintro L u W ⟨hB, c0, c1, c2, c3, c4, c5, c6, c7, c8, c9, c10, c11, c12, c13⟩ hf hd K hK
                            dsimp only at hK
                            have hd3 : L 3 = true := (by first | (refine hd ⟨3, .data⟩ ?_ rfl; simp; done) | (refine hd ⟨3, .guard⟩ ?_ rfl; simp; done) | (refine hd ⟨3, .phase⟩ ?_ rfl; simp; done) | (refine hd ⟨3, .chain⟩ ?_ rfl; simp; done))
                            have e3 := c3 hd3
                            rw [e3] at hK
                            have t0 := keepc (BX.out.trans (hB.mono BX.out.size)) HX.out
                            have t1 := keepc (BX.out.trans (hB.mono BX.out.size)) HY.out
                            have t2 := keepc (BX.out.trans (hB.mono BX.out.size)) HZ.out
                            clear hd3
                            clear hd
                            go_simp
                            refine hK _ _ ?_ (fun h => by cases h)
                            intro s hs
                            cases hs
                            exact ⟨hB, c0, c1, c2, c3, (fun _ => rfl), c5, c6, c7, c8, c9, c10, c11, c12, c13⟩
                          case s5r2 =>
                            rintro L u W ⟨hB, c0, c1, c2, c3, c4, c5, c6, c7, c8, c9, c10, c11, c12, c13⟩ hf hd K hK
                            dsimp only at hK
                            clear hd
                            go_simp
                            refine hK _ _ ?_ (fun h => by cases h)
                            intro s hs
                            cases hs
                            exact ⟨hB, c0, c1, c2, c3, c4, (fun _ => rfl), c6, c7, c8, c9, c10, c11, c12, c13⟩
                          case s6r2 =>
                            rintro L u W ⟨hB, c0, c1, c2, c3, c4, c5, c6, c7, c8, c9, c10, c11, c12, c13⟩ hf hd K hK
                            dsimp only at hK
                            clear hd
                            go_simp
                            refine hK _ _ ?_ (fun h => by cases h)
                            intro s hs
                            cases hs
                            exact ⟨hB, c0, c1, c2, c3, c4, c5, (fun _ => rfl), c7, c8, c9, c10, c11, c12, c13⟩
                          case s7r2 =>
                            rintro L u W ⟨hB, c0, c1, c2, c3, c4, c5, c6, c7, c8, c9, c10, c11, c12, c13⟩ hf hd K hK
                            dsimp only at hK
                            have hd5 : L 5 = true := (by first | (refine hd ⟨5, .data⟩ ?_ rfl; simp; done) | (refine hd ⟨5, .guard⟩ ?_ rfl; simp; done) | (refine hd ⟨5, .phase⟩ ?_ rfl; simp; done) | (refine hd ⟨5, .chain⟩ ?_ rfl; simp; done))
                            have hd6 : L 6 = true := (by first | (refine hd ⟨6, .data⟩ ?_ rfl; simp; done) | (refine hd ⟨6, .guard⟩ ?_ rfl; simp; done) | (refine hd ⟨6, .phase⟩ ?_ rfl; simp; done) | (refine hd ⟨6, .chain⟩ ?_ rfl; simp; done))
                            have e5 := c5 hd5
                            rw [e5] at hK
                            have e6 := c6 hd6
                            rw [e6] at hK
                            clear hd5
                            clear hd6
                            clear hd
                            go_simp
                            refine hK _ _ ?_ (fun h => by cases h)
                            intro s hs
                            cases hs
                            exact ⟨hB, c0, c1, c2, c3, c4, c5, c6, (fun _ => rfl), c8, c9, c10, c11, c12, c13⟩
                          case s8r2 =>
                            rintro L u W ⟨hB, c0, c1, c2, c3, c4, c5, c6, c7, c8, c9, c10, c11, c12, c13⟩ hf hd K hK
                            dsimp only at hK
                            have hd7 : L 7 = true := (by first | (refine hd ⟨7, .data⟩ ?_ rfl; simp; done) | (refine hd ⟨7, .guard⟩ ?_ rfl; simp; done) | (refine hd ⟨7, .phase⟩ ?_ rfl; simp; done) | (refine hd ⟨7, .chain⟩ ?_ rfl; simp; done))
                            have e7 := c7 hd7
                            rw [e7] at hK
                            clear hd7
                            clear hd
                            go_simp
                            refine hK _ _ ?_ (fun h => by cases h)
                            intro s hs
                            cases hs
                            exact ⟨hB, c0, c1, c2, c3, c4, c5, c6, c7, (fun _ => rfl), c9, c10, c11, c12, c13⟩
                          case s9r2 =>
                            rintro L u W ⟨hB, c0, c1, c2, c3, c4, c5, c6, c7, c8, c9, c10, c11, c12, c13⟩ hf hd K hK
                            dsimp only at hK
                            have hd8 : L 8 = true := (by first | (refine hd ⟨8, .data⟩ ?_ rfl; simp; done) | (refine hd ⟨8, .guard⟩ ?_ rfl; simp; done) | (refine hd ⟨8, .phase⟩ ?_ rfl; simp; done) | (refine hd ⟨8, .chain⟩ ?_ rfl; simp; done))
                            have e8 := c8 hd8
                            rw [e8] at hK
                            have t0 := keepc (BX.out.trans (hB.mono BX.out.size)) HZ'.out
                            clear hd8
                            clear hd
                            go_simp
                            refine hK _ _ ?_ (fun h => by cases h)
                            intro s hs
                            cases hs
                            exact ⟨hB, c0, c1, c2, c3, c4, c5, c6, c7, c8, (fun _ => rfl), c10, c11, c12, c13⟩
                          case s10r2 =>
                            rintro L u W ⟨hB, c0, c1, c2, c3, c4, c5, c6, c7, c8, c9, c10, c11, c12, c13⟩ hf hd K hK
                            dsimp only at hK
                            clear hd
                            go_simp
                            refine hK _ _ ?_ (fun h => by cases h)
                            intro s hs
                            cases hs
                            exact ⟨hB, c0, c1, c2, c3, c4, c5, c6, c7, c8, c9, (fun _ => rfl), c11, c12, c13⟩
                          case s11r2 =>
                            rintro L u W ⟨hB, c0, c1, c2, c3, c4, c5, c6, c7, c8, c9, c10, c11, c12, c13⟩ hf hd K hK
                            dsimp only at hK
                            have hd9 : L 9 = true := (by first | (refine hd ⟨9, .data⟩ ?_ rfl; simp; done) | (refine hd ⟨9, .guard⟩ ?_ rfl; simp; done) | (refine hd ⟨9, .phase⟩ ?_ rfl; simp; done) | (refine hd ⟨9, .chain⟩ ?_ rfl; simp; done))
                            have hd10 : L 10 = true := (by first | (refine hd ⟨10, .data⟩ ?_ rfl; simp; done) | (refine hd ⟨10, .guard⟩ ?_ rfl; simp; done) | (refine hd ⟨10, .phase⟩ ?_ rfl; simp; done) | (refine hd ⟨10, .chain⟩ ?_ rfl; simp; done))
                            have e9 := c9 hd9
                            rw [e9] at hK
                            have e10 := c10 hd10
                            rw [e10] at hK
                            clear hd9
                            clear hd10
                            clear hd
                            go_simp
                            refine hK _ _ ?_ (fun h => by cases h)
                            intro s hs
                            cases hs
                            exact ⟨hB, c0, c1, c2, c3, c4, c5, c6, c7, c8, c9, c10, (fun _ => rfl), c12, c13⟩
                          case s12r2 =>
                            rintro L u W ⟨hB, c0, c1, c2, c3, c4, c5, c6, c7, c8, c9, c10, c11, c12, c13⟩ hf hd K hK
                            dsimp only at hK
                            have hd11 : L 11 = true := (by first | (refine hd ⟨11, .data⟩ ?_ rfl; simp; done) | (refine hd ⟨11, .guard⟩ ?_ rfl; simp; done) | (refine hd ⟨11, .phase⟩ ?_ rfl; simp; done) | (refine hd ⟨11, .chain⟩ ?_ rfl; simp; done))
                            have e11 := c11 hd11
                            rw [e11] at hK
                            have t0 := PJ.out _ (BX.out.trans (hB.mono BX.out.size))
                            clear hd11
                            clear hd
                            go_simp
                            refine hK _ _ ?_ (fun h => by cases h)
                            intro s hs
                            cases hs
                            exact ⟨hB, c0, c1, c2, c3, c4, c5, c6, c7, c8, c9, c10, c11, (fun _ => rfl), c13⟩
                          case s13r2 =>
                            rintro L u W ⟨hB, c0, c1, c2, c3, c4, c5, c6, c7, c8, c9, c10, c11, c12, c13⟩ hf hd K hK
                            dsimp only at hK
                            have hd0 : L 0 = true := (by first | (refine hd ⟨0, .data⟩ ?_ rfl; simp; done) | (refine hd ⟨0, .guard⟩ ?_ rfl; simp; done) | (refine hd ⟨0, .phase⟩ ?_ rfl; simp; done) | (refine hd ⟨0, .chain⟩ ?_ rfl; simp; done))
                            have hd4 : L 4 = true := (by first | (refine hd ⟨4, .data⟩ ?_ rfl; simp; done) | (refine hd ⟨4, .guard⟩ ?_ rfl; simp; done) | (refine hd ⟨4, .phase⟩ ?_ rfl; simp; done) | (refine hd ⟨4, .chain⟩ ?_ rfl; simp; done))
                            have hd12 : L 12 = true := (by first | (refine hd ⟨12, .data⟩ ?_ rfl; simp; done) | (refine hd ⟨12, .guard⟩ ?_ rfl; simp; done) | (refine hd ⟨12, .phase⟩ ?_ rfl; simp; done) | (refine hd ⟨12, .chain⟩ ?_ rfl; simp; done))
                            have e0 := c0 hd0
                            rw [e0] at hK
                            have e4 := c4 hd4
                            rw [e4] at hK
                            have e12 := c12 hd12
                            rw [e12] at hK
                            clear hd0
                            clear hd4
                            clear hd12
                            clear hd
                            go_simp
                            go_wp2_with (go_at_call 16; ((with_reducible refine (FJ.out _ (BX.out.trans (hB.mono BX.out.size))).mono ?_); rintro e w5 ⟨rfl, hb⟩))
                            refine hK _ _ ?_ (fun h => by cases h)
                            intro s hs
                            cases hs
                            exact ⟨hB.trans (hb.mono hB.size), c0, c1, c2, c3, c4, c5, c6, c7, c8, c9, c10, c11, c12, (fun _ => rfl)⟩
                        case finr2 =>
                          rintro L u W hL ⟨hB, c0, c1, c2, c3, c4, c5, c6, c7, c8, c9, c10, c11, c12, c13⟩
                          have e0 := c0 (hL 0 (by decide))
                          have e1 := c1 (hL 1 (by decide))
                          have e2 := c2 (hL 2 (by decide))
                          have e3 := c3 (hL 3 (by decide))
                          have e4 := c4 (hL 4 (by decide))
                          have e5 := c5 (hL 5 (by decide))
                          have e6 := c6 (hL 6 (by decide))
                          have e7 := c7 (hL 7 (by decide))
                          have e8 := c8 (hL 8 (by decide))
                          have e9 := c9 (hL 9 (by decide))
                          have e10 := c10 (hL 10 (by decide))
                          have e11 := c11 (hL 11 (by decide))
                          have e12 := c12 (hL 12 (by decide))
                          have e13 := c13 (hL 13 (by decide))
                          clear hL c0 c1 c2 c3 c4 c5 c6 c7 c8 c9 c10 c11 c12 c13
                          try simp only [e0, e1, e2, e3, e4, e5, e6, e7, e8, e9, e10, e11, e12, e13]
                          clear e0 e1 e2 e3 e4 e5 e6 e7 e8 e9 e10 e11 e12 e13
                          have BY := Lib.hid (BX.out.trans (hB.mono BX.out.size))
                          clear km FJ BX hB PJ
                          go_wp2
                          go_roundw
                          case rel => exact ⟨p + 1, by go_num, hpt, BY.out⟩
                          case measure => simp [intOf]; omega
                      · obtain rfl : m' = p := by omega
                        go_wp2
                        go_roundw
                        case rel => exact ⟨n + 1, by go_num, by omega, hnt, BX.out⟩
                        case measure => simp [intOf]; omega
                  · obtain rfl : k = n := by omega
                    go_wp2
                    go_roundw
                    case rel => exact ⟨i + 1, by go_num, hlt, BX.out⟩
                    case measure => simp [intOf]; omega
        · obtain rfl : k = i := by omega
          have HB := Lib.hid (HB0.out.trans (B2.out.mono HB0.out.size))
          clear HB0 B2 km0
          go_wp2_with fail
          (((with_reducible refine (CD.out _).mono ?_); rintro e w9 ⟨rfl, hb9⟩); replace HB := Lib.hid (HB.out.trans (hb9.mono HB.out.size)); clear hb9)
          go_wp2
          go_ret
          exact ⟨rfl, HB.out⟩
end Go.Proofs.Ytcnbbanpnoigdaa
