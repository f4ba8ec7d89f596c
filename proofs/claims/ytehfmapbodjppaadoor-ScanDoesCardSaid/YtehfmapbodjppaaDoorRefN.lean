/-
  The reference's product: Times.
-/
import Derived.Test.YtehfmapbodjppaaDoorRefM
import Derived.RegionTactic
import Derived.BigRegion
namespace Go.Proofs.YtehfmapbodjppaaDoor
open Go.RowKit
open Go.BigFrame

theorem zeros_cell {W : World} {N j : Nat} (h : j < N) : (W.alloc (.cells (madeCells #[.int .i64 0] N) 3)).cell? ⟨W.heap.size, j, none⟩ = some (.int .i64 0) := by
  refine alloc_cell rfl ?_
  unfold madeCells
  simp [h, Nat.mod_one]
theorem made {P : Program} {i0 : TypeInfo} {W : World} (hu : P.underlying 27 = some (.slice 3)) (hi : P.info? 3 = some i0) (hz0 : i0.zero = some (.int .i64 0)) (hz1 : i0.size = 1) (hz2 : i0.bytes = 8) (n m : Nat) (hn : n ≤ 1000000) (hm : m ≤ 1000000) :
    (Instr.makeSlice 27 (.int .i64 ((n : Int) + m + 1)) (.int .i64 ((n : Int) + m + 1))).run P W = .ok (.slice (some ⟨W.heap.size, 0, none⟩) (n + m + 1) (n + m + 1)) (W.alloc (.cells (madeCells #[.int .i64 0] (n + m + 1)) 3)) := by
  have h := run_make (P := P) W 27 3 i0 (.int .i64 0) hu hi hz0 .i64 .i64 ((n : Int) + m + 1) ((n : Int) + m + 1) (by omega) (Int.le_refl _) (by rw [hz2]; omega) (by omega)
  rw [hz1, show ((n : Int) + m + 1).toNat = n + m + 1 from by omega, Nat.mul_one] at h
  exact h

/-- The world within Times: its own blocks, and the row that it fills. -/
structure TimesW (w : World) (s : Bool) (a : Option Addr) (n c : Nat) (t : Bool) (b : Option Addr) (m d : Nat) (g : Nat) (F : Nat → Int) (V : World) : Prop extends SumW w s a n c t b m d V where
  row : ∀ j, j < n + m + 1 → V.cell? ⟨g, j, none⟩ = some (.int .i64 (F j))
  frr : ∀ o, V.frozen? ⟨g, o, none⟩ = false
  more : w.heap.size + 1 + 1 < g
  most : g < V.heap.size

theorem TimesW.start {w : World} {s : Bool} {a : Option Addr} {n c : Nat} {t : Bool} {b : Option Addr} {m d : Nat} {V : World} (h : SumW w s a n c t b m d V) : TimesW w s a n c t b m d V.heap.size (fun _ => 0) (V.alloc (.cells (madeCells #[.int .i64 0] (n + m + 1)) 3)) :=
  { h.keep ((Below.refl _ _).alloc (Nat.le_refl _) _) with
    row := fun _ hj => zeros_cell hj
    frr := fun _ => alloc_frozen rfl
    more := h.big
    most := by simp }
theorem TimesW.drew {w : World} {s : Bool} {a : Option Addr} {n c : Nat} {t : Bool} {b : Option Addr} {m d g : Nat} {F : Nat → Int} {V : World} (h : TimesW w s a n c t b m d g F V) : TimesW w s a n c t b m d g F V.drew :=
  ⟨⟨h.bel.drew, h.big, h.x0, h.x1, h.y0, h.y1, h.z0, h.z1, h.fr⟩, h.row, h.frr, h.more, h.most⟩
theorem upd_self (F : Nat → Int) (p : Nat) : upd F p (F p) = F := by
  funext j; unfold upd; split
  · rename_i h; rw [h]
  · rfl
theorem frozen_set {W : World} {p q : Addr} {v : Value} : (W.setCell p v).frozen? q = W.frozen? q := World.frozen?_setCell _ _ _ _
theorem TimesW.set {w : World} {s : Bool} {a : Option Addr} {n c : Nat} {t : Bool} {b : Option Addr} {m d g : Nat} {F : Nat → Int} {V : World} (h : TimesW w s a n c t b m d g F V) {p : Nat} (hp : p < n + m + 1) (x : Int) : TimesW w s a n c t b m d g (upd F p x) (V.setCell ⟨g, p, none⟩ (.int .i64 x)) := by
  have hm := h.more
  have hs := ((Below.refl 0 V).setCell (p := ⟨g, p, none⟩) (Nat.zero_le _) (.int .i64 x)).size
  have hg : w.heap.size ≤ g := by omega
  refine ⟨⟨h.bel.setCell (p := ⟨g, p, none⟩) hg _, Nat.lt_of_lt_of_le h.big hs, cell_other h.x0 (show w.heap.size ≠ g by omega), cell_other h.x1 (show w.heap.size ≠ g by omega), cell_other h.y0 (show w.heap.size + 1 ≠ g by omega), cell_other h.y1 (show w.heap.size + 1 ≠ g by omega), cell_other h.z0 (show w.heap.size + 1 + 1 ≠ g by omega), cell_other h.z1 (show w.heap.size + 1 + 1 ≠ g by omega), fun o => frozen_set.trans (h.fr o)⟩, fun j hj => ?_, fun o => frozen_set.trans (h.frr o), h.more, Nat.lt_of_lt_of_le h.most hs⟩
  have hc := h.row p hp
  have hd := h.row j hj
  by_cases e : j = p
  · subst e
    rw [upd_at]
    simp [go_sem, hc]
  · rw [upd_ne _ _ e]
    simp [go_sem, hd]

set_option maxRecDepth 100000 in
set_option maxHeartbeats 1000000 in
theorem times_any (s t : Bool) (a b : Option Addr) (n m c d₁ : Nat) (D E : Nat → Int) (w : World) (ra : RowF w a n c D) (rb : RowF w b m d₁ E) (hn : n ≤ 100) (hm : m ≤ 100) (da : Dg D n) (db : Dg E m) (X : Int) (hX : (if s != t then -(vs D 0 n * vs E 0 m) else vs D 0 n * vs E 0 m) = X) :
    Calls Tryd.prog 25 #[.agg #[.bool s, .slice a n c], .agg #[.bool t, .slice b m d₁]] w (RetNum X w) := by
  obtain ⟨i0, hi, hz0, hz1, hz2⟩ := info_parts infoI
  have HX := Lib.hid hX
  have HV := sumW_is w s a n c t b m d₁
  clear hX
  go_enter Tryd.func25, Tryd.ntmps25
  go_upto_region 1 with fail
  rw [← sumW] at *
  generalize sumW w _ _ = V at *
  have RA := Lib.hid (ra.keep HV.bel)
  have RB := Lib.hid (rb.keep HV.bel)
  have HH := Lib.hid HV
  obtain ⟨BV, hbig, x0, x1, y0, y1, z0, z1, fr⟩ := HV
  have hmk := made (P := Tryd.prog) (W := V) rfl hi hz0 hz1 hz2 n m (by omega) (by omega)
  have HT := TimesW.start HH.out
  go_wp2_with fail
  generalize (V.alloc (.cells (madeCells #[.int .i64 0] (n + m + 1)) 3)) = V1 at *
  have hg0 : V.heap.size = V.heap.size := rfl
  generalize V.heap.size = g at *
  clear hmk x0 x1 y0 y1 z0 z1 fr hbig
  go_loopw [6] (fun ix wr => ∃ (i : Nat) (F : Nat → Int), i ≤ n ∧ ix = .int .i64 i ∧ TimesW w s a n c t b m d₁ g F wr ∧ RowM (dgt D n) (dgt E m) F i m (n + m + 1))
    (fun ix _ => n - (intOf ix).toNat)
  case atStart => exact ⟨0, fun _ => 0, Nat.zero_le _, rfl, HT, ⟨by rw [vs_nought _ _ (fun _ _ => rfl)]; exact (Int.zero_mul _).symm, fun _ => Int.le_refl _, fun _ => by decide, fun _ _ => rfl⟩⟩
  case round =>
    obtain ⟨i, F, hin, rfl, hT, hM⟩ := hrel
    have HT := Lib.hid hT
    have HM := Lib.hid hM
    obtain ⟨⟨BW, hbig, x0, x1, y0, y1, z0, z1, fr⟩, hrow, hfr, hmore, hmost⟩ := hT
    clear hM
    by_cases hlt : i < n
    · have hri := RA.out
      have qa := dgt_Ds da i
      have HQ := Lib.hid qa
      clear x0 x1 y0 y1 z0 z1 fr hrow hfr
      obtain ⟨⟨BW, hbig, x0, x1, y0, y1, z0, z1, fr⟩, hrow, hfr, hmore, hmost⟩ := HT.out
      clear hrow hfr
      go_wp2_with fail
      clear x0 x1 y0 y1 z0 z1 fr qa hri
      go_loopw [7] (fun kx wq => ∃ (k : Nat) (G : Nat → Int), k ≤ m ∧ kx = .int .i64 k ∧ TimesW w s a n c t b m d₁ g G wq ∧ Mid (dgt D n) (dgt E m) G i k m (n + m + 1))
        (fun kx _ => m - (intOf kx).toNat)
      case atStart => exact ⟨0, F, Nat.zero_le _, rfl, HT.out, HM.out.mid⟩
      case round =>
        obtain ⟨k, G, hkm, rfl, hT2, hM2⟩ := hrel
        have HT2 := Lib.hid hT2
        have HM2 := Lib.hid hM2
        clear hT2 hM2 HT HM
        obtain ⟨⟨BW2, hbig2, x0, x1, y0, y1, z0, z1, fr⟩, hrow, hfr, hmore2, hmost2⟩ := HT2.out
        by_cases hlk : k < m
        · have r0 := hrow (i + k) (by omega)
          have r1 := hrow (i + k + 1) (by omega)
          have f0 := hfr (i + k)
          have f1 := hfr (i + k + 1)
          obtain ⟨ba, oa, rfl, hla, hca⟩ := ra.at hlt
          obtain ⟨bb, ob, rfl, hlb, hcb⟩ := rb.at hlk
          have ca := (BW2.cell (p := ⟨ba, oa + i, none⟩) hla).trans (hca i hlt)
          have cb := (BW2.cell (p := ⟨bb, ob + k, none⟩) hlb).trans (hcb k hlk)
          have ia : (i : Int) + k < (n : Int) + m + 1 := by omega
          have wp0 : IntKind.i64.wrap ((i : Int) + k) = ((i + k : Nat) : Int) := by rw [IntWalk.i64_in _ (by omega)]; omega
          clear hrow hfr hca hcb z0 z1 fr
          go_upto_region 8 with fail
          have gk := HM2.out.nn (i + k)
          have gt := HM2.out.top
          have qa := dgt_Ds da i
          have qb := dgt_Ds db k
          have ea : dgt (D) n i = D i := by unfold dgt; rw [if_pos hlt]
          have eb : dgt (E) m k = E k := by unfold dgt; rw [if_pos hlk]
          rw [ea] at qa
          rw [eb] at qb
          have y0' : 0 ≤ D i * E k := Int.mul_nonneg qa.1 qb.1
          have y1' : D i * E k ≤ 81 := by
            have : D i * E k ≤ 9 * E k := Int.mul_le_mul_of_nonneg_right qa.2 qb.1
            omega
          have wp1 : IntKind.i64.wrap (D i * E k) = D i * E k := IntWalk.i64_in _ (by omega)
          have wp2 : IntKind.i64.wrap (G (i + k) + D i * E k) = G (i + k) + D i * E k := IntWalk.i64_in _ (by omega)
          have tn : ((i + k : Nat) : Int).toNat = i + k := by omega
          have lt1 : ((i + k : Nat) : Int) < ((n + m + 1 : Nat) : Int) := by omega
          have lt2 : (i : Int) < (n : Int) := by omega
          have lt3 : (k : Int) < (m : Int) := by omega
          go_region
          have MS := HM2.out.step hlk (by omega) (dgt_Ds da i) (dgt_Ds db k)
          rw [ea, eb] at MS
          have S1 := Lib.hid MS
          have T1 := (HT2.out.set (p := i + k) (by omega) (G (i + k) + D i * E k)).drew
          have g1' := HM2.out.nn (i + k + 1)
          have g1u := HM2.out.le (i + k + 1) (by omega)
          have v0 := T1.row (i + k) (by omega)
          have v1 := T1.row (i + k + 1) (by omega)
          rw [upd_at] at v0
          rw [upd_ne _ _ (show i + k + 1 ≠ i + k by omega)] at v1
          have h0 := T1.frr (i + k)
          have h1 := T1.frr (i + k + 1)
          have HT1 := Lib.hid T1
          clear MS T1 x0 x1 y0 y1 ca cb qa qb ea eb r0 r1 f0 f1 HT2 HM2 wp1 wp2 BW2 hmost2 hbig2
          generalize hY : G (i + k) + D i * E k = Y at *
          have hY0 : 0 ≤ Y ∧ Y ≤ 99 := by omega
          clear y0' y1' gk gt lt2 lt3
          generalize (wr.setCell ⟨g, i + k, none⟩ (.int .i64 Y)).drew = W1 at *
          have wp3 : IntKind.i64.wrap ((i : Int) + k + 1) = (i : Int) + k + 1 := IntWalk.i64_in _ (by omega)
          have td : Y.tdiv 10 = Y / 10 := Int.tdiv_eq_ediv_of_nonneg hY0.1
          have wp4 : IntKind.i64.wrap (G (i + k + 1) + Y / 10) = G (i + k + 1) + Y / 10 := IntWalk.i64_in _ (by omega)
          have lt4 : ((i + k + 1 : Nat) : Int) < ((n + m + 1 : Nat) : Int) := by omega
          have tn4 : ((i : Int) + k + 1).toNat = i + k + 1 := by omega
          go_upto_region 9 with fail
          go_region
          have T2 := (HT1.out.set (p := i + k + 1) (by omega) (G (i + k + 1) + Y / 10)).drew
          have e0 := T2.row (i + k) (by omega)
          rw [upd_ne _ _ (show i + k ≠ i + k + 1 by omega), upd_at] at e0
          have e1 := T2.frr (i + k)
          have HT2 := Lib.hid T2
          clear T2 HT1 v0 v1 h0 h1 wp3 wp4 td lt4 tn4 g1' g1u
          generalize (W1.setCell ⟨g, i + k + 1, none⟩ (.int .i64 (G (i + k + 1) + Y / 10))).drew = W2 at *
          have tm : Y.tmod 10 = Y % 10 := Int.tmod_eq_emod_of_nonneg hY0.1
          go_wp2_with fail
          have T3 := HT2.out.set (p := i + k) (by omega) (Y % 10)
          rw [← hY] at T3
          go_roundw
          case rel => exact ⟨k + 1, stepF G (i + k) (D i * E k), by omega, by go_num, by rw [← hY]; exact T3, S1.out⟩
          case measure => simp [intOf]; omega
        · have hkm' : k = m := by omega
          subst hkm'
          clear x0 x1 y0 y1 z0 z1 fr hrow hfr
          obtain ⟨⟨BW3, hbig3, x0, x1, y0, y1, z0, z1, fr⟩, hrow, hfr, hmore3, hmost3⟩ := HT2.out
          clear hrow hfr
          go_wp2_with fail
          go_roundw
          case rel => exact ⟨i + 1, G, by omega, by go_num, HT2.out, HM2.out.row⟩
          case measure => simp [intOf]; omega
    · have hin' : i = n := by omega
      have MN := HM.out
      rw [hin'] at MN
      have HMN := Lib.hid MN
      clear MN HM hin hrow hfr x0 x1 y0 y1 z0 z1 fr
      obtain ⟨⟨BW1, hbig1, x0, x1, y0, y1, z0, z1, fr⟩, hrow, hfr, hmore1, hmost1⟩ := HT.out
      clear hrow hfr
      go_wp2_with fail
      clear x0 x1 y0 y1 z0 z1 fr BW1 hbig1 hmore1 hmost1
      go_loopw [8] (fun qx wq => ∃ q : Nat, q ≤ n + m ∧ qx = .int .i64 q ∧ TimesW w s a n c t b m d₁ g F wq)
        (fun qx _ => n + m - (intOf qx).toNat)
      case atStart => exact ⟨0, Nat.zero_le _, rfl, HT.out⟩
      case round =>
        obtain ⟨q, hq, rfl, hT3⟩ := hrel
        have HT3 := Lib.hid hT3
        clear hT3 HT
        have qn := HMN.out.nn q
        have ql := HMN.out.le q
        have pn := HMN.out.nn (q + 1)
        have pl := HMN.out.le (q + 1)
        by_cases hlq : q < n + m
        · have r0 := HT3.out.row q (by omega)
          have r1 := HT3.out.row (q + 1) (by omega)
          have f0 := HT3.out.frr q
          have f1 := HT3.out.frr (q + 1)
          have T4 := (HT3.out.set (p := q + 1) (by omega) (F (q + 1))).drew
          rw [upd_self] at T4
          have HT4 := Lib.hid T4
          clear T4
          have td : (F q).tdiv 10 = 0 := by rw [Int.tdiv_eq_ediv_of_nonneg qn]; omega
          have wp5 : IntKind.i64.wrap ((q : Int) + 1) = (q : Int) + 1 := IntWalk.i64_in _ (by omega)
          have wp6 : IntKind.i64.wrap (F (q + 1)) = F (q + 1) := IntWalk.i64_in _ (by omega)
          have tn5 : ((q : Int) + 1).toNat = q + 1 := by omega
          have lt5 : (q : Int) + 1 < (n : Int) + m + 1 := by omega
          go_upto_region 14 with fail
          go_region
          clear r0 r1 f0 f1 HT3 wp5 wp6 tn5 lt5 td pn pl
          generalize (wr.setCell ⟨g, q + 1, none⟩ (.int .i64 (F (q + 1)))).drew = W1 at *
          have e0 := HT4.out.row q (by omega)
          have e1 := HT4.out.frr q
          have tm : (F q).tmod 10 = F q := by rw [Int.tmod_eq_emod_of_nonneg qn]; omega
          have em : F q % 10 = F q := by omega
          have T5 := HT4.out.set (p := q) (by omega) (F q)
          rw [upd_self] at T5
          have HT5 := Lib.hid T5
          clear T5
          go_wp2_with fail
          go_roundw
          case rel => exact ⟨q + 1, by omega, by go_num, HT5.out⟩
          case measure => simp [intOf]; omega
        · obtain ⟨⟨BW4, hbig4, x0, x1, y0, y1, z0, z1, fr⟩, hrow, hfr, hmore4, hmost4⟩ := HT3.out
          have hR : RowF wr (some ⟨g, 0, none⟩) (n + m + 1) (n + m + 1) F := .inr ⟨g, 0, rfl, hmost4, Nat.le_refl _, fun j hj => by rw [Nat.zero_add]; exact hrow j hj⟩
          have hD : Dg F (n + m + 1) := fun j _ => ⟨HMN.out.nn j, HMN.out.le j⟩
          have hv := HMN.out.val
          rw [vs_dgt D n n (Nat.le_refl _), vs_dgt E m m (Nat.le_refl _)] at hv
          have HVV := Lib.hid hv
          clear hrow hfr hv qn ql pn pl
          go_wp2_with ((go_at_call 34; refine ((trim_any _ _ _ _ F _ hR (by omega))).mono ?_; rintro e w1 ⟨rfl, hb1⟩; have hB1 : Below w.heap.size w w1 := (by refine Below.trans ?_ (hb1.mono (by first | omega | (simp; done) | (simp; omega))); (repeat (first | exact Below.refl _ _ | assumption | refine Below.drew ?_ | refine below_drewN ?_ _ | refine Below.setCell ?_ (by first | omega | (simp; done) | (simp; omega)) _ | refine Below.alloc ?_ (by first | omega | (simp; done) | (simp; omega)) _))); have hsz1 : w.heap.size ≤ w1.heap.size := hB1.size; replace z0 := keepc hb1 (by first | exact z0 | exact keepa z0 | exact keepa (keepa z0) | (simp [go_sem, *]; done)); replace z1 := keepc hb1 (by first | exact z1 | exact keepa z1 | exact keepa (keepa z1) | (simp [go_sem, *]; done))); have g0 := (hb1.frozen (p := ⟨w.heap.size + 1 + 1, 0, none⟩) hbig4).trans (fr 0); have g1 := (hb1.frozen (p := ⟨w.heap.size + 1 + 1, 1, none⟩) hbig4).trans (fr 1))
          have Z := sum_end (!(s == t)) (.bool (!(s == t) && decide (0 < tl F (n + m + 1)))) (.slice (some ⟨g, 0, none⟩) (tl F (n + m + 1)) (n + m + 1)) hB1 hR hb1 (by omega) hD HVV.out (fun b off e => by cases e; exact hmore)
          rw [show (if (!(s == t)) = true then -(vs D 0 n * vs E 0 m) else vs D 0 n * vs E 0 m) = X from HX.out] at Z
          exact bodyPost_ret (v := .agg #[.bool (!(s == t) && decide (0 < tl F (n + m + 1))), .slice (some ⟨g, 0, none⟩) (tl F (n + m + 1)) (n + m + 1)]) (by simp [results, Tryd.results25, go_sem, z0, z1]) rfl ⟨Z.1, _, rfl, Z.2⟩
theorem times_num {w : World} {va vb : Value} {A B : Int} (ha : NumV w va A) (hb : NumV w vb B) (sa : Small A) (sb : Small B) : Calls Tryd.prog 25 #[va, vb] w (RetNum (A * B) w) := by
  obtain ⟨a, n, c, D, rfl, ra, hc, da, ta, ea⟩ := ha
  obtain ⟨b, m, d, E, rfl, rb, hd, db, tb, eb⟩ := hb
  have hn := num_small da ta ea sa
  have hm := num_small db tb eb sb
  have fa := side (N := A) rfl ea
  have fb := side (N := B) rfl eb
  refine times_any _ _ a b n m c d D E w ra rb hn hm da db _ ?_
  generalize decide (A < 0) = s at *
  generalize decide (B < 0) = t at *
  rw [fa, fb]
  cases s <;> cases t <;> simp [Int.neg_mul, Int.mul_neg]
end Go.Proofs.YtehfmapbodjppaaDoor
