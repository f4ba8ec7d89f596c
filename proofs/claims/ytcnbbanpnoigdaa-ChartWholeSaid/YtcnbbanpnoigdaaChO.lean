/-
  The law ChartWhole, from what the package is to answer. (gen/ChO.py)
-/
import Derived.Test.YtcnbbanpnoigdaaChM
namespace Go.Proofs.Ytcnbbanpnoigdaa
open Go.RowKit

/-- How often each triangle stands in a row. -/
def cnL (n : Nat) (S : List Int) : List Int := (List.range n).map fun x => ((S.count ((x : Nat) : Int) : Nat) : Int)
theorem cnL_len (n : Nat) (S : List Int) : (cnL n S).length = n := by unfold cnL; rw [List.length_map, List.length_range]
theorem cnL_at {n : Nat} (S : List Int) {x : Nat} (h : x < n) : (cnL n S).getD x 0 = ((S.count ((x : Nat) : Int) : Nat) : Int) := by
  unfold cnL
  rw [List.getD_eq_getElem?_getD, List.getElem?_map, List.getElem?_range h]
  rfl
theorem cnL_set {n : Nat} (S : List Int) (x : Nat) : (cnL n S).set x (((S.count ((x : Nat) : Int) : Nat) : Int) + 1) = cnL n (S ++ [((x : Nat) : Int)]) := by
  unfold cnL
  apply List.ext_getElem
  · simp
  · intro i h1 h2
    rw [List.getElem_set]
    simp only [List.getElem_map, List.getElem_range, List.count_append]
    split
    · rename_i e
      subst e
      rw [List.count_singleton_self]
      omega
    · rename_i e
      rw [List.count_singleton, if_neg (by rw [beq_iff_eq]; omega)]
      omega
theorem made_n (W : World) (n : Nat) (hn : n ≤ 1000000) :
    (Instr.makeSlice 34 (.int .i64 (n : Int)) (.int .i64 (n : Int))).run Try.prog W = .ok (.slice (some ⟨W.heap.size, 0, none⟩) n n) (W.alloc (.cells ((cnL n []).map (Value.int .i64)).toArray 3)) := by
  obtain ⟨i0, hi, hz0, hz1, hz2⟩ := info_parts infoI
  have h := run_make (P := Try.prog) W 34 3 i0 (.int .i64 0) Try.underlying34 hi hz0 .i64 .i64 (n : Int) (n : Int) (by omega) (Int.le_refl _) (by rw [hz2]; omega) (by omega)
  rw [hz1, Int.toNat_natCast, Nat.mul_one] at h
  rw [show ((cnL n []).map (Value.int .i64)).toArray = madeCells (Value.int .i64 0).cells n from by
    apply Array.ext
    · rw [size_madeCells]; simp [cnL_len]
    · intro i h1 h2
      unfold madeCells cnL
      simp [Nat.mod_one, Value.cells]]
  exact h
theorem own_cn (W : World) (n : Nat) (hn : n ≤ 1000000) : OwnI (W.alloc (.cells ((cnL n []).map (Value.int .i64)).toArray 3)) W.heap.size (.slice (some ⟨W.heap.size, 0, none⟩) n n) (cnL n []) := by
  unfold OwnI
  rw [cnL_len]
  refine ⟨by rw [List.length_map, cnL_len, Nat.mul_one], .inr ⟨W.heap.size, n, _, rfl, Nat.le_refl _, Lok.new _ _ _, Nat.le_refl _, by unfold maxLen; omega, by simp [cnL_len], ?_⟩⟩
  rw [List.toList_toArray, Nat.mul_one, List.take_of_length_le (by rw [List.length_map, cnL_len]; exact Nat.le_refl _)]
theorem cn_once {L : List ChT} (h : (ChF.all L).Nodup) {i : Nat} {c : ChT} (hc : L[i]? = some c) (j : Nat) (x : Int) : (ChF.all (L.take i) ++ c.2.2.take j).count x ≤ 1 := by
  obtain ⟨r, e⟩ : ∃ r, ChF.all L = (ChF.all (L.take i) ++ c.2.2.take j) ++ r := by
    have e1 : ∀ (A B : List ChT), ChF.all (A ++ B) = ChF.all A ++ ChF.all B := fun A B => by
      induction A with
      | nil => rfl
      | cons a A ih => show a.2.2 ++ ChF.all (A ++ B) = (a.2.2 ++ ChF.all A) ++ ChF.all B; rw [ih, List.append_assoc]
    refine ⟨c.2.2.drop j ++ ChF.all (L.drop (i + 1)), ?_⟩
    have z := e1 (L.take (i + 1)) (L.drop (i + 1))
    rw [List.take_append_drop, ChF.all_take hc] at z
    rw [z, List.append_assoc, List.append_assoc, ← List.append_assoc (c.2.2.take j), List.take_append_drop]
  have z : (ChF.all L).count x ≤ 1 := by
    by_cases q : x ∈ ChF.all L
    · rw [nodup_once h q]; exact Nat.le_refl _
    · rw [List.count_eq_zero.2 q]; exact Nat.zero_le _
  rw [e, List.count_append] at z
  omega
set_option maxRecDepth 100000 in
set_option maxHeartbeats 32000000 in
theorem law_whole (E : ChOK) (CH : ∀ w, Calls Try.prog 9 #[] w fun e w' => e = .returned (.bool true) ∧ Below w.heap.size w w') (pa1 pa2 pa3 pa4 : Option Addr) (n1 n2 n3 n4 c1 c2 c3 c4 : Nat) (FV FT FN FC : Nat → Nat → Int) (w : World) (hm : RowK w pa1 n1 3 FV ∧ RowK w pa2 n2 2 FT ∧ RowK w pa3 n3 3 FN ∧ RowK w pa4 n4 9 FC) :
    Calls Try.prog 3 #[.agg #[.slice pa1 n1 c1, .slice pa2 n2 c2, .slice pa3 n3 c3, .slice pa4 n4 c4]] w fun e w' => e = .returned (.bool true) ∧ Below w.heap.size w w' := by
  have HB := Lib.hid (Below.refl w.heap.size w)
  have FW := Lib.hid (fun W => rfew15_any pa1 pa2 pa3 pa4 n1 n2 n3 n4 c1 c2 c3 c4 W)
  have CD := Lib.hid CH
  clear CH
  cases hf : fw15 n1 n2 n3 n4 with
  | false =>
    rw [hf] at FW
    go_enter Try.func3, Try.ntmps3
    go_upto_region 1 with fail
    have hbm := below_new1 w (.cells #[.slice pa1 n1 c1, .slice pa2 n2 c2, .slice pa3 n3 c3, .slice pa4 n4 c4] 26)
    have zm : (w.alloc (.cells #[.slice pa1 n1 c1, .slice pa2 n2 c2, .slice pa3 n3 c3, .slice pa4 n4 c4] 26)).heap.size = w.heap.size + 1 := by simp
    have HB := Lib.hid hbm
    have km := Lib.hid (Lok.new w 26 #[.slice pa1 n1 c1, .slice pa2 n2 c2, .slice pa3 n3 c3, .slice pa4 n4 c4])
    clear hbm
    generalize w.alloc (.cells #[.slice pa1 n1 c1, .slice pa2 n2 c2, .slice pa3 n3 c3, .slice pa4 n4 c4] 26) = Vm at *
    clear zm
    have m0 := km.out.cell (i := 0) rfl
    have m1 := km.out.cell (i := 1) rfl
    have m2 := km.out.cell (i := 2) rfl
    have m3 := km.out.cell (i := 3) rfl
    go_wp2_with fail
    clear m0 m1 m2 m3
    (((with_reducible refine (FW.out _).mono ?_); rintro e w1 ⟨rfl, hb1⟩); replace HB := Lib.hid (HB.out.trans (hb1.mono HB.out.size)); replace km := Lib.hid (km.out.keep hb1); clear hb1)
    clear km
    go_wp2
    go_ret
    exact ⟨rfl, HB.out⟩
  | true =>
    have q := fw15_yes hf
    rw [hf] at FW
    have M := Lib.hid (show MsW w pa1 pa2 pa3 pa4 n1 n2 n3 n4 FV FT FN FC from ⟨hm, by omega, by omega, by omega, by omega⟩)
    have GR := Lib.hid (fun W (h : Below w.heap.size w W) => E.grow pa1 pa2 pa3 pa4 n1 n2 n3 n4 c1 c2 c3 c4 FV FT FN FC W (M.out.keep h) q.1.1 q.2)
    have TA := Lib.hid (fun W (h : Below w.heap.size w W) => E.tame pa1 pa2 pa3 pa4 n1 n2 n3 n4 c1 c2 c3 c4 FV FT FN FC W (M.out.keep h) q.1.1 q.2)
    have FA := Lib.hid (fun i W (h : Below w.heap.size w W) => E.facing pa1 pa2 pa3 pa4 n1 n2 n3 n4 c1 c2 c3 c4 FV FT FN FC i W (M.out.keep h) q.1.1 q.2)
    have IS := Lib.hid (fun a m c L W (h : Below w.heap.size w W) (hr : RowC W a m L) h1 h2 => E.right pa1 pa2 pa3 pa4 n1 n2 n3 n4 c1 c2 c3 c4 FV FT FN FC a m c L W (M.out.keep h) q.1.1 q.2 hr h1 h2)
    clear hf hm E M
    cases hr : tmB n1 n2 n3 n4 FV FT FN FC with
    | false =>
      rw [hr] at GR TA
      rw [show agE false = 1 from rfl, show chA false n4 FV FC = [] from rfl] at GR
      clear hr FA IS
      go_enter Try.func3, Try.ntmps3
      go_upto_region 1 with fail
      have hbm := below_new1 w (.cells #[.slice pa1 n1 c1, .slice pa2 n2 c2, .slice pa3 n3 c3, .slice pa4 n4 c4] 26)
      have zm : (w.alloc (.cells #[.slice pa1 n1 c1, .slice pa2 n2 c2, .slice pa3 n3 c3, .slice pa4 n4 c4] 26)).heap.size = w.heap.size + 1 := by simp
      have HB := Lib.hid hbm
      have km := Lib.hid (Lok.new w 26 #[.slice pa1 n1 c1, .slice pa2 n2 c2, .slice pa3 n3 c3, .slice pa4 n4 c4])
      clear hbm
      generalize w.alloc (.cells #[.slice pa1 n1 c1, .slice pa2 n2 c2, .slice pa3 n3 c3, .slice pa4 n4 c4] 26) = Vm at *
      clear zm
      have m0 := km.out.cell (i := 0) rfl
      have m1 := km.out.cell (i := 1) rfl
      have m2 := km.out.cell (i := 2) rfl
      have m3 := km.out.cell (i := 3) rfl
      go_wp2_with fail
      clear m0 m1 m2 m3
      (((with_reducible refine (FW.out _).mono ?_); rintro e w1 ⟨rfl, hb1⟩); replace HB := Lib.hid (HB.out.trans (hb1.mono HB.out.size)); replace km := Lib.hid (km.out.keep hb1); clear hb1)
      have m0 := km.out.cell (i := 0) rfl
      have m1 := km.out.cell (i := 1) rfl
      have m2 := km.out.cell (i := 2) rfl
      have m3 := km.out.cell (i := 3) rfl
      go_wp2_with fail
      clear m0 m1 m2 m3
      ((with_reducible refine (GR.out _ HB.out).mono ?_); rintro e w2 ⟨⟨v2, Z2, rfl, O2, HZ2⟩, hb2⟩)
      obtain ⟨a2, d2, rfl, -, -, -, -⟩ := rowC_of_own O2
      obtain rfl : Z2 = [] := List.map_eq_nil_iff.1 HZ2
      clear O2 HZ2 GR FW
      replace HB := Lib.hid (HB.out.trans (hb2.mono HB.out.size))
      replace km := Lib.hid (km.out.keep hb2)
      clear hb2
      simp only [List.length_nil]
      go_wp2_with fail
      (((with_reducible refine (CD.out _).mono ?_); rintro e w3 ⟨rfl, hb3⟩); replace HB := Lib.hid (HB.out.trans (hb3.mono HB.out.size)); replace km := Lib.hid (km.out.keep hb3); clear hb3)
      have m0 := km.out.cell (i := 0) rfl
      have m1 := km.out.cell (i := 1) rfl
      have m2 := km.out.cell (i := 2) rfl
      have m3 := km.out.cell (i := 3) rfl
      go_wp2_with fail
      clear m0 m1 m2 m3
      (((with_reducible refine (TA.out _ HB.out).mono ?_); rintro e w4 ⟨rfl, hb4⟩); replace HB := Lib.hid (HB.out.trans (hb4.mono HB.out.size)); clear hb4)
      go_wp2
      go_ret
      exact ⟨rfl, HB.out⟩
    | true =>
      rw [hr] at GR FA IS
      rw [show agE true = 0 from rfl, show chA true n4 FV FC = (chF true n4 FV FC).grow (chF true n4 FV FC).n from rfl] at GR
      have G := (chF true n4 FV FC).grown (Nat.le_refl _)
      have ND := Lib.hid G.nodup
      have AT : Hid (∀ c ∈ (chF true n4 FV FC).grow (chF true n4 FV FC).n, 0 < c.2.2.length ∧ c.2.2.length ≤ 12 ∧ 0 ≤ c.2.2.getD 0 0 ∧ ∀ x ∈ c.2.2, c.2.2.getD 0 0 ≤ x ∧ (∃ i : Nat, x = (i : Int) ∧ i < n4) ∧ (chF true n4 FV FC).K x = true ∧ (chF true n4 FV FC).A x = c.1 ∧ (chF true n4 FV FC).S x = c.2.1) := Lib.hid (fun c hc => by
        obtain ⟨z1, z2, z3⟩ := (chF true n4 FV FC).grow_at hc
        obtain ⟨P, g, -⟩ := G.good c hc
        refine ⟨z1, Nat.le_trans ((chF true n4 FV FC).good_len g) q.2, (z3 _ (by rw [List.getD_eq_getElem?_getD, List.getElem?_eq_getElem z1]; exact List.getElem_mem _)).2.1, fun x hx => ?_⟩
        obtain ⟨y1, y2, y3, y4⟩ := z3 x hx
        obtain ⟨f1, f2, f3⟩ := (chF true n4 FV FC).fb_iff.1 y4
        exact ⟨y1, ⟨x.toNat, by omega, by have : x < (n4 : Int) := y3; omega⟩, f1, f2, f3⟩)
      have RIS : Hid (∀ i a b, ((chF true n4 FV FC).grow (chF true n4 FV FC).n)[i]? = some a → ((chF true n4 FV FC).grow (chF true n4 FV FC).n)[i + 1]? = some b → a.2.2.getD 0 0 < b.2.2.getD 0 0) := Lib.hid (fun i a b ha hb => (chF true n4 FV FC).grow_rise ha hb (Nat.lt_succ_self i))
      have ALL : Hid (∀ i : Nat, i < n4 → (ChF.all ((chF true n4 FV FC).grow (chF true n4 FV FC).n)).count (i : Int) = if (chF true n4 FV FC).K i then 1 else 0) := Lib.hid (fun i hi => by
        cases k : (chF true n4 FV FC).K i with
        | true => exact (chF true n4 FV FC).grow_right.2 i hi k
        | false => exact (chF true n4 FV FC).grow_none k)
      have OKR := Lib.hid (chF true n4 FV FC).grow_rightB
      have LEN : ((chF true n4 FV FC).grow (chF true n4 FV FC).n).length ≤ 12 := Nat.le_trans (grow_len _ _) q.2
      clear hr G TA
      generalize (chF true n4 FV FC).grow (chF true n4 FV FC).n = L at *
      go_enter Try.func3, Try.ntmps3
      go_upto_region 1 with fail
      have hbm := below_new1 w (.cells #[.slice pa1 n1 c1, .slice pa2 n2 c2, .slice pa3 n3 c3, .slice pa4 n4 c4] 26)
      have zm : (w.alloc (.cells #[.slice pa1 n1 c1, .slice pa2 n2 c2, .slice pa3 n3 c3, .slice pa4 n4 c4] 26)).heap.size = w.heap.size + 1 := by simp
      have HB := Lib.hid hbm
      have km := Lib.hid (Lok.new w 26 #[.slice pa1 n1 c1, .slice pa2 n2 c2, .slice pa3 n3 c3, .slice pa4 n4 c4])
      clear hbm
      generalize w.alloc (.cells #[.slice pa1 n1 c1, .slice pa2 n2 c2, .slice pa3 n3 c3, .slice pa4 n4 c4] 26) = Vm at *
      clear zm
      have m0 := km.out.cell (i := 0) rfl
      have m1 := km.out.cell (i := 1) rfl
      have m2 := km.out.cell (i := 2) rfl
      have m3 := km.out.cell (i := 3) rfl
      go_wp2_with fail
      clear m0 m1 m2 m3
      (((with_reducible refine (FW.out _).mono ?_); rintro e w1 ⟨rfl, hb1⟩); replace HB := Lib.hid (HB.out.trans (hb1.mono HB.out.size)); replace km := Lib.hid (km.out.keep hb1); clear hb1)
      have m0 := km.out.cell (i := 0) rfl
      have m1 := km.out.cell (i := 1) rfl
      have m2 := km.out.cell (i := 2) rfl
      have m3 := km.out.cell (i := 3) rfl
      go_wp2_with fail
      clear m0 m1 m2 m3
      ((with_reducible refine (GR.out _ HB.out).mono ?_); rintro e w2 ⟨⟨v2, Z2, rfl, O2, HZ2⟩, hb2⟩)
      obtain ⟨a2, d2, rfl, -, lc2, mc2, R2⟩ := rowC_of_own O2
      rw [HZ2] at R2
      have hkl := R2.1
      clear O2 HZ2 GR FW
      generalize Z2.length = k at *
      rw [hkl] at LEN
      replace R2 := Lib.hid R2
      replace HB := Lib.hid (HB.out.trans (hb2.mono HB.out.size))
      replace km := Lib.hid (km.out.keep hb2)
      have B2 := Lib.hid (Below.refl w2.heap.size w2)
      clear hb2
      have HB0 := HB
      have km0 := km
      clear HB km
      have mk := made_n w2 n4 (by omega)
      have m3 := km0.out.cell (i := 3) rfl
      go_upto_region 7 with fail
      clear m3 mk
      have hbm := (Below.refl w2.heap.size w2).alloc (Nat.le_refl _) (.cells ((cnL n4 []).map (Value.int .i64)).toArray 3)
      have OM := Lib.hid (own_cn w2 n4 (by omega))
      replace B2 := Lib.hid hbm
      clear hbm
      generalize w2.alloc (.cells ((cnL n4 []).map (Value.int .i64)).toArray 3) = V2 at *
      go_wp2_with fail
      go_loopw [6, 7] (fun y x wr => ∃ (i : Nat) (z : Int), x = .int .i64 i ∧ y = .int .i64 z ∧ i ≤ k ∧ (∀ c, L[i]? = some c → z < c.2.2.getD 0 0) ∧ OwnI wr w2.heap.size (.slice (some ⟨w2.heap.size, 0, none⟩) n4 n4) (cnL n4 (ChF.all (L.take i))) ∧ Below w2.heap.size w2 wr) (fun _ x _ => k - (intOf x).toNat)
      case atStart => exact ⟨0, -1, rfl, rfl, Nat.zero_le _, fun c hc => by have := (AT.out c (List.mem_of_getElem? hc)).2.2.1; omega, OM.out, B2.out⟩
      case round =>
        clear B2 OM
        obtain ⟨i, z, rfl, rfl, hi, hz0, hO, hB⟩ := hrel
        have B2 := Lib.hid hB
        have OM := Lib.hid hO
        have LST := Lib.hid hz0
        clear hB hO hz0
        by_cases hlt : i < k
        · have i0 : (0 : Int) ≤ (i : Int) := by omega
          have i1 : (i : Int) < (k : Int) := by omega
          have i2 : ((i : Int)).toNat = i := by omega
          obtain ⟨b, o, t, m, ct, ax, sd, l, e2, hb, hL, hx, hy, hz, hr, htn, hmc, hcm⟩ := R2.out.at hlt
          subst e2
          obtain ⟨t0, t1, t2, t3⟩ := AT.out _ (List.mem_of_getElem? hL)
          have zl := LST.out _ hL
          dsimp only at t0 t1 t2 t3 zl
          have ml := hr.1
          rw [ml] at t0 t1
          have T3 := Lib.hid t3
          have NXT : Hid (∀ c, L[i + 1]? = some c → l.getD 0 0 < c.2.2.getD 0 0) := Lib.hid (fun c hc => RIS.out i _ c hL hc)
          have EQ := Lib.hid (ChF.all_take hL)
          have ONE := Lib.hid (fun j x => cn_once ND.out hL j x)
          dsimp only at EQ ONE
          obtain ⟨g2, o2, e4, hg2, hc2⟩ := hr.at t0
          subst e4
          have q0 := Lib.hid (hc2 0 t0)
          rw [Nat.add_zero] at q0
          rw [← Nat.add_assoc] at hy hz
          have HX := Lib.hid hx
          have HY := Lib.hid hy
          have HZ := Lib.hid hz
          have HC := Lib.hid hc2
          have ML := Lib.hid ml
          have x1 : ((m : Int) == 0) = false := by rw [beq_eq_false_iff_ne]; omega
          have x2 : ¬ (m : Int) = 0 := by omega
          have x3 : ¬ m = 0 := by omega
          have x4 : (0 : Int) < (m : Int) := by omega
          have x5 : ¬ l.getD 0 0 ≤ z := by omega
          clear hL hx hy hz hr htn hcm t3 hc2 ml LST
          obtain ⟨hd, ehd⟩ : ∃ hd, l.getD 0 0 = hd := ⟨_, rfl⟩
          rw [ehd] at q0 x5 zl t2 NXT T3
          have EHD := Lib.hid ehd
          clear ehd
          have hz := keepc B2.out HZ.out
          have q1 := keepc B2.out q0.out
          go_wp2_with fail
          clear hz q1 x1 x2 x3 x4 x5 zl
          go_loopw [8] (fun x wv => ∃ j : Nat, x = .int .i64 j ∧ j ≤ m ∧ OwnI wv w2.heap.size (.slice (some ⟨w2.heap.size, 0, none⟩) n4 n4) (cnL n4 (ChF.all (L.take i) ++ l.take j)) ∧ Below w2.heap.size w2 wv) (fun x _ => m - (intOf x).toNat)
          case atStart => exact ⟨0, rfl, Nat.zero_le _, by rw [List.take_zero, List.append_nil]; exact OM.out, B2.out⟩
          case round =>
            clear B2 OM
            obtain ⟨j, rfl, hj, hO, hB⟩ := hrel
            have B2 := Lib.hid hB
            have OM := Lib.hid hO
            clear hB hO
            have hz := keepc B2.out HZ.out
            by_cases hjt : j < m
            · have j0 : (0 : Int) ≤ (j : Int) := by omega
              have j1 : (j : Int) < (m : Int) := by omega
              have j2 : ((j : Int)).toNat = j := by omega
              have jl : j < l.length := by have := ML.out; omega
              obtain ⟨ge, ⟨p, ep, pn⟩, kx, ax1, sx1⟩ := T3.out (l.getD j 0) (by rw [List.getD_eq_getElem?_getD, List.getElem?_eq_getElem jl]; exact List.getElem_mem _)
              have FJ := Lib.hid (fun W (h : Below w2.heap.size w2 W) => FA.out (l.getD j 0) W (HB0.out.trans (h.mono HB0.out.size)))
              rw [kx, ax1, sx1, ep] at FJ
              have qj := keepc B2.out (HC.out j hjt)
              rw [ep] at qj ge
              have TK : Hid (l.take (j + 1) = l.take j ++ [(p : Int)]) := Lib.hid (by
                rw [List.take_add_one, List.getElem?_eq_getElem jl]
                rw [List.getD_eq_getElem?_getD, List.getElem?_eq_getElem jl] at ep
                rw [← ep]; rfl)
              have on := ONE.out j (p : Int)
              have OC := OM.out.cells (i := p) (by rw [cnL_len]; exact pn)
              rw [cnL_at _ pn] at OC
              have SET := Lib.hid (cnL_set (n := n4) (ChF.all (L.take i) ++ l.take j) p)
              clear kx ax1 sx1 ep
              obtain ⟨cn, hcn⟩ : ∃ cn, (ChF.all (L.take i) ++ l.take j).count (p : Int) = cn := ⟨_, rfl⟩
              rw [hcn] at OC on SET
              have HCN := Lib.hid hcn
              clear hcn
              have p0 : (0 : Int) ≤ (p : Int) := by omega
              have p1 : (p : Int) < (n4 : Int) := by omega
              have p2 : ((p : Int)).toNat = p := by omega
              have p3 : ¬ (p : Int) < hd := by omega
              have p4 : ¬ (n4 : Int) ≤ (p : Int) := by omega
              have p5 : ¬ n4 ≤ p := by omega
              have km := Lib.hid (km0.out.keep B2.out)
              have m0 := km.out.cell (i := 0) rfl
              have m1 := km.out.cell (i := 1) rfl
              have m2 := km.out.cell (i := 2) rfl
              have m3 := km.out.cell (i := 3) rfl
              go_wp2_with fail
              clear m0 m1 m2 m3 km hz qj OC p3 p4 p5
              ((with_reducible refine (FJ.out _ B2.out).mono ?_); rintro e w5 ⟨rfl, hb5⟩)
              replace B2 := Lib.hid (B2.out.trans (hb5.mono B2.out.size))
              replace OM := Lib.hid (OM.out.keep hb5)
              clear hb5 FJ
              have hx := keepc B2.out HX.out
              have hy := keepc B2.out HY.out
              have a1 : (ax != ax) = false := by simp
              have a2' : (sd != sd) = false := by simp
              obtain ⟨OC1, OC2⟩ := OM.out.cells (i := p) (by rw [cnL_len]; exact pn)
              have OC3 : w5.cell? ⟨w2.heap.size, p, none⟩ = some (.int .i64 (cn : Int)) := by
                rw [OC1]
                rw [cnL_at _ pn, HCN.out]
              clear OC1
              have OS := Lib.hid (OM.out.set p ((cn : Int) + 1))
              have BS := Lib.hid (B2.out.setCell (p := ⟨w2.heap.size, p, none⟩) (Nat.le_refl _) (.int .i64 ((cn : Int) + 1)))
              clear OM B2
              go_wp2
              go_roundw
              case rel => exact ⟨j + 1, by go_num, hjt, by rw [TK.out, ← List.append_assoc, ← SET.out]; exact OS.out, BS.out⟩
              case measure => simp [intOf]; omega
            · obtain rfl : m = j := by omega
              go_wp2
              go_roundw
              case rel => exact ⟨i + 1, hd, by go_num, rfl, hlt, NXT.out, by rw [EQ.out]; have z := OM.out; rwa [List.take_of_length_le (Nat.le_of_eq ML.out)] at z, B2.out⟩
              case measure => simp [intOf]; omega
        · obtain rfl : k = i := by omega
          rw [List.take_of_length_le (Nat.le_of_eq hkl)] at OM
          clear LST hi hlt RIS ND
          have m3 := (km0.out.keep B2.out).cell (i := 3) rfl
          go_wp2_with fail
          clear m3
          go_loopw [13] (fun x wv => ∃ i : Nat, x = .int .i64 i ∧ i ≤ n4 ∧ OwnI wv w2.heap.size (.slice (some ⟨w2.heap.size, 0, none⟩) n4 n4) (cnL n4 (ChF.all L)) ∧ Below w2.heap.size w2 wv) (fun x _ => n4 - (intOf x).toNat)
          case atStart => exact ⟨0, rfl, Nat.zero_le _, OM.out, B2.out⟩
          case round =>
            clear B2 OM
            obtain ⟨i, rfl, hi, hO, hB⟩ := hrel
            have B2 := Lib.hid hB
            have OM := Lib.hid hO
            clear hB hO
            have km := Lib.hid (km0.out.keep B2.out)
            have m3 := km.out.cell (i := 3) rfl
            by_cases hlt : i < n4
            · have i0 : (0 : Int) ≤ (i : Int) := by omega
              have i1 : (i : Int) < (n4 : Int) := by omega
              have i2 : ((i : Int)).toNat = i := by omega
              have FJ := Lib.hid (fun W (h : Below w2.heap.size w2 W) => FA.out (i : Int) W (HB0.out.trans (h.mono HB0.out.size)))
              have AI := ALL.out i hlt
              obtain ⟨OC1, OC2⟩ := OM.out.cells (i := i) (by rw [cnL_len]; exact hlt)
              rw [cnL_at _ hlt, AI] at OC1
              have OCH := Lib.hid (And.intro OC1 OC2)
              clear OC1 OC2 AI
              generalize (chF true n4 FV FC).A (i : Int) = fa at *
              generalize (chF true n4 FV FC).S (i : Int) = fs at *
              have m0 := km.out.cell (i := 0) rfl
              have m1 := km.out.cell (i := 1) rfl
              have m2 := km.out.cell (i := 2) rfl
              cases hk : (chF true n4 FV FC).K (i : Int) with
              | true =>
                rw [hk] at FJ OCH
                clear hk
                go_wp2_with fail
                clear m0 m1 m2 m3 km
                ((with_reducible refine (FJ.out _ B2.out).mono ?_); rintro e w5 ⟨rfl, hb5⟩)
                have OC1 := keepc hb5 OCH.out.1
                simp only [if_true, Int.natCast_one] at OC1
                replace B2 := Lib.hid (B2.out.trans (hb5.mono B2.out.size))
                replace OM := Lib.hid (OM.out.keep hb5)
                clear hb5 FJ OCH
                go_wp2
                go_roundw
                case rel => exact ⟨i + 1, by go_num, hlt, OM.out, B2.out⟩
                case measure => simp [intOf]; omega
              | false =>
                rw [hk] at FJ OCH
                clear hk
                go_wp2_with fail
                clear m0 m1 m2 m3 km
                ((with_reducible refine (FJ.out _ B2.out).mono ?_); rintro e w5 ⟨rfl, hb5⟩)
                have OC1 := keepc hb5 OCH.out.1
                simp only [if_false, Bool.false_eq_true, Int.natCast_zero] at OC1
                replace B2 := Lib.hid (B2.out.trans (hb5.mono B2.out.size))
                replace OM := Lib.hid (OM.out.keep hb5)
                clear hb5 FJ OCH
                go_wp2
                go_roundw
                case rel => exact ⟨i + 1, by go_num, hlt, OM.out, B2.out⟩
                case measure => simp [intOf]; omega
            · obtain rfl : n4 = i := by omega
              have HB := Lib.hid (HB0.out.trans (B2.out.mono HB0.out.size))
              clear OM ALL hlt hi
              go_wp2_with fail
              ((with_reducible refine (CD.out _).mono ?_); rintro e w6 ⟨rfl, hb6⟩)
              replace HB := Lib.hid (HB.out.trans (hb6.mono HB.out.size))
              replace B2 := Lib.hid (B2.out.trans (hb6.mono B2.out.size))
              replace km := Lib.hid (km.out.keep hb6)
              clear hb6 m3
              have IL := IS.out a2 k d2 L _ HB.out (R2.out.keep B2.out) (by omega) (fun e he => by have := (AT.out e he).2.1; omega)
              rw [OKR.out, Bool.true_and] at IL
              have m0 := km.out.cell (i := 0) rfl
              have m1 := km.out.cell (i := 1) rfl
              have m2 := km.out.cell (i := 2) rfl
              have m3 := km.out.cell (i := 3) rfl
              go_wp2_with fail
              clear m0 m1 m2 m3
              (((with_reducible refine (IL).mono ?_); rintro e w9 ⟨rfl, hb9⟩); replace HB := Lib.hid (HB.out.trans (hb9.mono HB.out.size)); clear hb9)
              go_wp2
              go_ret
              exact ⟨rfl, HB.out⟩
end Go.Proofs.Ytcnbbanpnoigdaa
