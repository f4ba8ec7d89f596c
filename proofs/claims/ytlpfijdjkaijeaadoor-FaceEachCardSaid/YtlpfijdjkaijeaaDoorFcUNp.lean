/-
  FaceEach, of sides of two numbers. (gen/FcU.py)
-/
import Derived.Test.YtlpfijdjkaijeaaDoorFcU
namespace Go.Proofs.YtlpfijdjkaijeaaDoor
open Go.RowKit

set_option maxRecDepth 100000 in
set_option maxHeartbeats 8000000 in
theorem law_eachNp (v t n : Int) (A : Option Addr) (N c : Nat) (F : Nat → ByteArray) (w : World) (hr : RowS w A N c F) (hN : N ≤ 9223372036854775807) (ht : Tab w)
    (bv : -9223372036854775808 ≤ v ∧ v ≤ 9223372036854775807) (bt : -9223372036854775808 ≤ t ∧ t ≤ 9223372036854775807) (bn : -9223372036854775808 ≤ n ∧ n ≤ 9223372036854775807) (st : t < 0) (sn : 0 ≤ n) :
    Calls Tryd.prog 7 #[.int .i64 v, .int .i64 t, .int .i64 n, .slice A N c] w fun e w' => e = .returned (.bool true) ∧ Below w.heap.size w w' := by
  have HB := Lib.hid (Below.refl w.heap.size w)
  have HT := Lib.hid ht
  have RS := Lib.hid hr
  have FA := Lib.hid (fun W h => far_any A N c F W h hN)
  have FD := Lib.hid faced_any
  have BV := Lib.hid bv
  have BT := Lib.hid bt
  have BN := Lib.hid bn
  have ST := Lib.hid st
  have SN := Lib.hid sn
  clear ht hr bv bt bn st sn
  go_enter Tryd.func7, Tryd.ntmps7
  go_wp2_with fail
  (with_reducible refine (FA.out _ RS.out).mono ?_); rintro e w1 ⟨hb, rfl | ⟨rfl, hN30, hF⟩⟩
  all_goals
    replace HB := Lib.hid (HB.out.trans (hb.mono HB.out.size))
    replace HT := Lib.hid (HT.out.keep hb)
    replace RS := Lib.hid (RS.out.keep hb)
    clear hb FA
  · go_wp2_with fail
    go_ret
    exact ⟨rfl, HB.out⟩
  · have HF := Lib.hid hF
    have F1 := Lib.hid (fun W (h : RowS W A N c F) => face_any v t n A N c F W h (by omega) (fun i hi => Nat.le_trans (hF i hi) (by decide)) BV.out BT.out BN.out)
    clear hF
    go_wp2_with fail
    (with_reducible refine (F1.out _ RS.out).mono ?_); rintro e w2 ⟨hb, hres⟩
    replace HB := Lib.hid (HB.out.trans (hb.mono HB.out.size))
    replace HT := Lib.hid (HT.out.keep hb)
    replace RS := Lib.hid (RS.out.keep hb)
    have HRS : Hid (∃ (af : Option Addr) (cf : Nat), e = .returned (.tuple #[.slice af (if faceE F v t n N = 0 then N - 2 else 0) cf, .int .i64 (faceE F v t n N)]) ∧ RowK w2 af (if faceE F v t n N = 0 then N - 2 else 0) 9 (fanF (cornF F v t n)) ∧ (faceE F v t n N = 0 → 3 ≤ N)) := by
      rcases hres with ⟨h0, rfl⟩ | ⟨h0, h3, af, cf, rfl, hrf, -⟩
      · exact Lib.hid ⟨none, 0, by rw [if_neg h0], by rw [if_neg h0]; exact rowK_none _ _ _, fun q => absurd q h0⟩
      · exact Lib.hid ⟨af, cf, by rw [if_pos h0, h0], by rw [if_pos h0]; exact hrf, fun _ => h3⟩
    clear hb hres F1
    obtain ⟨af, cf, rfl, hrf, h3⟩ := HRS.out
    have RF := Lib.hid hrf
    have H3 := Lib.hid h3
    clear HRS hrf h3
    obtain ⟨fe, hfe⟩ : ∃ x, faceE F v t n N = x := ⟨_, rfl⟩
    obtain ⟨M, hM⟩ : ∃ x, (if faceE F v t n N = 0 then N - 2 else 0) = x := ⟨_, rfl⟩
    rw [hM] at RF ⊢
    rw [hfe] at H3 ⊢
    have HFE := Lib.hid hfe
    have HM := Lib.hid hM
    clear hfe hM
    have G0 : Hid (gd F v t n N 0 = decide ((3 : Int) ≤ N)) := by
      refine Lib.hid ?_
      unfold gd
      rw [show erC F v t n 0 = 0 from rfl, decide_eq_true (rfl : (0 : Int) = 0), Bool.and_true]
      exact decide_eq_decide.2 (by omega)
    go_upto_region 5 with fail
    rw [← G0.out]
    clear G0
    go_wp2_with fail
    go_loopw [11, 12] (fun gv x wr => ∃ k : Nat, gv = .bool (gd F v t n N k) ∧ x = .int .i64 k ∧ k ≤ N ∧ Tab wr ∧ RowS wr A N c F ∧ RowK wr af M 9 (fanF (cornF F v t n)) ∧ Below w.heap.size w wr) (fun _ x _ => N - (intOf x).toNat)
    case atStart => exact ⟨0, rfl, rfl, Nat.zero_le _, HT.out, RS.out, RF.out, HB.out⟩
    case round =>
      clear HB HT RS RF
      obtain ⟨k, rfl, rfl, hk, hT, hS, hR, hB⟩ := hrel
      have HB := Lib.hid hB
      have HT := Lib.hid hT
      have RS := Lib.hid hS
      have RF := Lib.hid hR
      clear hB hT hS hR
      by_cases hlt : k < N
      · obtain ⟨b, off, rfl, hl, hc⟩ := RS.out.at hlt
        have c1 := hc k hlt
        have i0 : (0 : Int) ≤ (k : Int) := by omega
        have i1 : (k : Int) < N := by omega
        have C := Lib.hid (fun W => corner_any (F k) v t n W (Nat.le_trans (HF.out k hlt) (by decide)) BV.out BT.out BN.out)
        have GY := Lib.hid (fun (a : gd F v t n N k = true) (b : (cornerS (F k).data.toList v t n).2.2.2 = 0) => gd_yes a b)
        have GN := Lib.hid (fun (a : gd F v t n N k = false) => gd_no a)
        have GE := Lib.hid (fun (b : ¬ (cornerS (F k).data.toList v t n).2.2.2 = 0) => gd_err (N := N) b)
        unfold retC at C
        obtain ⟨p, hp⟩ : ∃ p, (cornerS (F k).data.toList v t n).1 = p := ⟨_, rfl⟩
        obtain ⟨q, hq⟩ : ∃ p, (cornerS (F k).data.toList v t n).2.1 = p := ⟨_, rfl⟩
        obtain ⟨r, hr⟩ : ∃ p, (cornerS (F k).data.toList v t n).2.2.1 = p := ⟨_, rfl⟩
        obtain ⟨x, hx⟩ : ∃ p, (cornerS (F k).data.toList v t n).2.2.2 = p := ⟨_, rfl⟩
        obtain ⟨S, hS⟩ : ∃ S, F k = S := ⟨_, rfl⟩
        rw [hp, hq, hr, hx] at C
        rw [hx] at GY GE
        rw [hS] at C c1
        obtain ⟨g, hg⟩ : ∃ g, gd F v t n N k = g := ⟨_, rfl⟩
        rw [hg] at GY GN ⊢
        clear hp hq hr hx hS hc hg
        by_cases h0 : x = 0
        · subst h0
          cases g with
          | true =>
            have GG := Lib.hid (GY.out rfl rfl)
            clear GY GN GE
            go_wp2_with fail
            (((with_reducible refine (C.out _).mono ?_); rintro e w3 ⟨rfl, hb3⟩); replace HB := Lib.hid (HB.out.trans (hb3.mono HB.out.size)); replace HT := Lib.hid (HT.out.keep hb3); replace RS := Lib.hid (RS.out.keep hb3); replace RF := Lib.hid (RF.out.keep hb3); clear hb3)
            clear c1
            go_upto_region 9 with fail
            have hbd := below_new1 w3 (.cells #[.int .i64 p, .int .i64 q, .int .i64 r] 23)
            replace HT := Lib.hid (HT.out.keep hbd)
            replace RS := Lib.hid (RS.out.keep hbd)
            replace RF := Lib.hid (RF.out.keep hbd)
            have zd : (w3.alloc (.cells #[.int .i64 p, .int .i64 q, .int .i64 r] 23)).heap.size = w3.heap.size + 1 := by simp
            replace HB := Lib.hid (HB.out.trans (hbd.mono HB.out.size))
            have kd := Lib.hid (Lok.new w3 23 #[.int .i64 p, .int .i64 q, .int .i64 r])
            clear hbd
            generalize w3.alloc (.cells #[.int .i64 p, .int .i64 q, .int .i64 r] 23) = Vd at *
            clear zd kd
            go_wp2_with fail
            go_roundw
            case rel => exact ⟨k + 1, by rw [GG.out], by go_num, hlt, HT.out, RS.out, RF.out, HB.out⟩
            case measure => simp [intOf]; omega
          | false =>
            have GG := Lib.hid (GN.out rfl)
            clear GY GN GE
            go_wp2_with fail
            (((with_reducible refine (C.out _).mono ?_); rintro e w3 ⟨rfl, hb3⟩); replace HB := Lib.hid (HB.out.trans (hb3.mono HB.out.size)); replace HT := Lib.hid (HT.out.keep hb3); replace RS := Lib.hid (RS.out.keep hb3); replace RF := Lib.hid (RF.out.keep hb3); clear hb3)
            clear c1
            go_upto_region 9 with fail
            have hbd := below_new1 w3 (.cells #[.int .i64 p, .int .i64 q, .int .i64 r] 23)
            replace HT := Lib.hid (HT.out.keep hbd)
            replace RS := Lib.hid (RS.out.keep hbd)
            replace RF := Lib.hid (RF.out.keep hbd)
            have zd : (w3.alloc (.cells #[.int .i64 p, .int .i64 q, .int .i64 r] 23)).heap.size = w3.heap.size + 1 := by simp
            replace HB := Lib.hid (HB.out.trans (hbd.mono HB.out.size))
            have kd := Lib.hid (Lok.new w3 23 #[.int .i64 p, .int .i64 q, .int .i64 r])
            clear hbd
            generalize w3.alloc (.cells #[.int .i64 p, .int .i64 q, .int .i64 r] 23) = Vd at *
            clear zd kd
            go_wp2_with fail
            go_roundw
            case rel => exact ⟨k + 1, by rw [GG.out], by go_num, hlt, HT.out, RS.out, RF.out, HB.out⟩
            case measure => simp [intOf]; omega
        · have x1 : (x == 0) = false := by simp [h0]
          have GG := Lib.hid (GE.out h0)
          clear GY GN GE
          cases g with
          | true =>
            go_wp2_with fail
            (((with_reducible refine (C.out _).mono ?_); rintro e w3 ⟨rfl, hb3⟩); replace HB := Lib.hid (HB.out.trans (hb3.mono HB.out.size)); replace HT := Lib.hid (HT.out.keep hb3); replace RS := Lib.hid (RS.out.keep hb3); replace RF := Lib.hid (RF.out.keep hb3); clear hb3)
            clear c1
            go_upto_region 9 with fail
            have hbd := below_new1 w3 (.cells #[.int .i64 p, .int .i64 q, .int .i64 r] 23)
            replace HT := Lib.hid (HT.out.keep hbd)
            replace RS := Lib.hid (RS.out.keep hbd)
            replace RF := Lib.hid (RF.out.keep hbd)
            have zd : (w3.alloc (.cells #[.int .i64 p, .int .i64 q, .int .i64 r] 23)).heap.size = w3.heap.size + 1 := by simp
            replace HB := Lib.hid (HB.out.trans (hbd.mono HB.out.size))
            have kd := Lib.hid (Lok.new w3 23 #[.int .i64 p, .int .i64 q, .int .i64 r])
            clear hbd
            generalize w3.alloc (.cells #[.int .i64 p, .int .i64 q, .int .i64 r] 23) = Vd at *
            clear zd kd
            go_wp2_with fail
            go_roundw
            case rel => exact ⟨k + 1, by rw [GG.out], by go_num, hlt, HT.out, RS.out, RF.out, HB.out⟩
            case measure => simp [intOf]; omega
          | false =>
            go_wp2_with fail
            (((with_reducible refine (C.out _).mono ?_); rintro e w3 ⟨rfl, hb3⟩); replace HB := Lib.hid (HB.out.trans (hb3.mono HB.out.size)); replace HT := Lib.hid (HT.out.keep hb3); replace RS := Lib.hid (RS.out.keep hb3); replace RF := Lib.hid (RF.out.keep hb3); clear hb3)
            clear c1
            go_upto_region 9 with fail
            have hbd := below_new1 w3 (.cells #[.int .i64 p, .int .i64 q, .int .i64 r] 23)
            replace HT := Lib.hid (HT.out.keep hbd)
            replace RS := Lib.hid (RS.out.keep hbd)
            replace RF := Lib.hid (RF.out.keep hbd)
            have zd : (w3.alloc (.cells #[.int .i64 p, .int .i64 q, .int .i64 r] 23)).heap.size = w3.heap.size + 1 := by simp
            replace HB := Lib.hid (HB.out.trans (hbd.mono HB.out.size))
            have kd := Lib.hid (Lok.new w3 23 #[.int .i64 p, .int .i64 q, .int .i64 r])
            clear hbd
            generalize w3.alloc (.cells #[.int .i64 p, .int .i64 q, .int .i64 r] 23) = Vd at *
            clear zd kd
            go_wp2_with fail
            go_roundw
            case rel => exact ⟨k + 1, by rw [GG.out], by go_num, hlt, HT.out, RS.out, RF.out, HB.out⟩
            case measure => simp [intOf]; omega
      · obtain rfl : k = N := by omega
        by_cases h0 : fe = 0
        · have OK := Lib.hid (faceE_ok (HFE.out.trans h0))
          have HM2 : Hid (M = k - 2) := Lib.hid (by rw [← HM.out, if_pos (HFE.out.trans h0)])
          subst h0
          rw [OK.out.2.2.2]
          have h3 : 3 ≤ k := OK.out.1
          have hMs : M ≤ 1000 := by have := HM2.out; omega
          have CO := Lib.hid (fun q (hq : q < k) => corn_ok OK.out.2.1 OK.out.2.2.1 q hq)
          obtain ⟨G, hG⟩ : ∃ G, cornF F v t n = G := ⟨_, rfl⟩
          rw [hG] at CO RF
          clear hG RS OK HF H3 HFE HM
          go_wp2_with fail
          go_loopw [15] (fun x ws => ∃ i : Nat, x = .int .i64 i ∧ i ≤ M ∧ Tab ws ∧ RowK ws af M 9 (fanF G) ∧ Below w.heap.size w ws) (fun x _ => M - (intOf x).toNat)
          case atStart => exact ⟨0, rfl, Nat.zero_le _, HT.out, RF.out, HB.out⟩
          case round =>
            clear HB HT RF
            obtain ⟨i, rfl, hi, hT, hR, hB⟩ := hrel
            have HB := Lib.hid hB
            have HT := Lib.hid hT
            have RF := Lib.hid hR
            clear hB hT hR
            by_cases hlti : i < M
            · have i0 : (0 : Int) ≤ (i : Int) := by omega
              have i1 : (i : Int) < M := by omega
              go_wp2_with fail
              go_loopw [16] (fun x ws => ∃ j : Nat, x = .int .i64 j ∧ j ≤ 3 ∧ Tab ws ∧ RowK ws af M 9 (fanF G) ∧ Below w.heap.size w ws) (fun x _ => 3 - (intOf x).toNat)
              case atStart => exact ⟨0, rfl, Nat.zero_le _, HT.out, RF.out, HB.out⟩
              case round =>
                clear HB HT RF
                obtain ⟨j, rfl, hj, hT, hR, hB⟩ := hrel
                have HB := Lib.hid hB
                have HT := Lib.hid hT
                have RF := Lib.hid hR
                clear hB hT hR
                by_cases hltj : j < 3
                · obtain ⟨b, off, rfl, hl, hc⟩ := RF.out.at hlti
                  obtain ⟨q, hq, hF⟩ := fan_at G i j hltj
                  obtain ⟨⟨a1, a2⟩, ⟨a3, a4⟩, ⟨a5, a6⟩, a7, a8⟩ := CO.out q (by have := HM2.out; omega)
                  have j0 : (0 : Int) ≤ (j : Int) := by omega
                  have j1 : (j : Int) < 3 := by omega
                  have m0 : (0 : Int) < M := by omega
                  have m00 : 0 < M := by omega
                  have c0 := hc i hlti (j * 3 + 0) (by omega)
                  have c1 := hc i hlti (j * 3 + 1) (by omega)
                  have c2 := hc i hlti (j * 3 + 2) (by omega)
                  have d1 : wr.cell? ⟨b, off + (0 * 9 + 1), none⟩ = some (.int .i64 (G 0 1)) := hc 0 (by omega) 1 (by decide)
                  have d2 : wr.cell? ⟨b, off + (0 * 9 + 2), none⟩ = some (.int .i64 (G 0 2)) := hc 0 (by omega) 2 (by decide)
                  rw [hF 0 (by decide)] at c0
                  rw [hF 1 (by decide)] at c1
                  rw [hF 2 (by decide)] at c2
                  rw [Nat.add_zero, ← Nat.add_assoc] at c0
                  rw [← Nat.add_assoc, ← Nat.add_assoc] at c1 c2
                  rw [Nat.zero_mul, Nat.zero_add] at d1 d2
                  have D1 := Lib.hid d1
                  have D2 := Lib.hid d2
                  clear hc d1 d2 hF hq
                  obtain ⟨x0, hx0⟩ : ∃ x, G q 0 = x := ⟨_, rfl⟩
                  obtain ⟨x1, hx1⟩ : ∃ x, G q 1 = x := ⟨_, rfl⟩
                  obtain ⟨x2, hx2⟩ : ∃ x, G q 2 = x := ⟨_, rfl⟩
                  obtain ⟨y1, hy1⟩ : ∃ x, G 0 1 = x := ⟨_, rfl⟩
                  obtain ⟨y2, hy2⟩ : ∃ x, G 0 2 = x := ⟨_, rfl⟩
                  rw [hx0] at c0 a1 a2
                  rw [hx1] at c1 a3 a4 a7
                  rw [hx2] at c2 a5 a6 a8
                  rw [hy1] at D1 a7
                  rw [hy2] at D2 a8
                  clear hx0 hx1 hx2 hy1 hy2
                  go_upto_region 19 with fail
                  clear c0 c1 c2 hl
                  have HBN := Lib.hid (below_new1 wr (.cells #[.int .i64 x0, .int .i64 x1, .int .i64 x2] 23))
                  have hbd := below_new1 wr (.cells #[.int .i64 x0, .int .i64 x1, .int .i64 x2] 23)
                  replace HT := Lib.hid (HT.out.keep hbd)
                  replace RF := Lib.hid (RF.out.keep hbd)
                  have zd : (wr.alloc (.cells #[.int .i64 x0, .int .i64 x1, .int .i64 x2] 23)).heap.size = wr.heap.size + 1 := by simp
                  replace HB := Lib.hid (HB.out.trans (hbd.mono HB.out.size))
                  have kd := Lib.hid (Lok.new wr 23 #[.int .i64 x0, .int .i64 x1, .int .i64 x2])
                  clear hbd
                  generalize wr.alloc (.cells #[.int .i64 x0, .int .i64 x1, .int .i64 x2] 23) = Vd at *
                  have z0 := kd.out.cell (i := 0) rfl
                  have z1 := kd.out.cell (i := 1) rfl
                  have z2 := kd.out.cell (i := 2) rfl
                  have e1 := keepc HBN.out D1.out
                  have e2 := keepc HBN.out D2.out
                  have b0 : decide (x0 < 0) = false := decide_eq_false (by omega)
                  have b1 : decide (v ≤ x0) = false := decide_eq_false (by omega)
                  have b2 : decide (x1 < -1) = false := decide_eq_false (by omega)
                  have b3 : decide (x2 < -1) = false := decide_eq_false (by omega)
                  clear zd kd D1 D2 HBN
                  obtain ⟨bT, hT2⟩ : ∃ bT, decide (x1 < 0) = bT := ⟨_, rfl⟩
                  have hT3 : decide (y1 < 0) = bT := by rw [← hT2]; exact decide_eq_decide.2 a7.symm
                  obtain ⟨bN, hN2⟩ : ∃ bN, decide (x2 < 0) = bN := ⟨_, rfl⟩
                  have hN3 : decide (y2 < 0) = bN := by rw [← hN2]; exact decide_eq_decide.2 a8.symm
                  have j2 : 3 - (j + 1) < 3 - j := by omega
                  have hS := ST.out
                  have hS2 := SN.out
                  have tt1 : decide (t ≤ x1) = true := decide_eq_true (by omega)
                  have tt2 : decide (0 ≤ x1) = false := decide_eq_false (by omega)
                  have nn1 : decide (n ≤ x2) = false := decide_eq_false (by omega)
                  clear hS hS2
                  clear a1 a2 a3 a5 a7 a8 a4 a6
                  go_quiet (fail)
                  go_wp2_with fail
                  go_roundw
                  case rel => exact ⟨j + 1, by go_num, by omega, HT.out.keep (below_drewN (Below.refl _ _) _), RF.out.keep (below_drewN (Below.refl _ _) _), below_drewN HB.out _⟩
                  case measure => simp [intOf]; omega
                · obtain rfl : j = 3 := by omega
                  go_wp2_with fail
                  go_roundw
                  case rel => exact ⟨i + 1, by go_num, hlti, HT.out, RF.out, HB.out⟩
                  case measure => simp [intOf]; omega
            · obtain rfl : i = M := by omega
              have q9 : IntKind.i64.wrap ((k : Int) - 2) = (i : Int) := by have := HM2.out; rw [IntKind.wrap_i64]; omega
              go_wp2_with fail
              (((with_reducible refine (FD.out _ HT.out).mono ?_); rintro e w3 ⟨rfl, hb3⟩); replace HB := Lib.hid (HB.out.trans (hb3.mono HB.out.size)); clear hb3)
              go_wp2_with fail
              go_ret
              exact ⟨rfl, HB.out⟩
        · have hM2 : M = 0 := by rw [← HM.out, if_neg (fun q => h0 (HFE.out.symm.trans q))]
          have ER := faceE_err (F := F) (v := v) (t := t) (n := n) (N := k) (fun q => h0 (HFE.out.symm.trans q))
          rw [HFE.out] at ER
          have x1 : (fe != 0) = true := by simp [h0]
          subst hM2
          rcases ER with rfl | ⟨rfl, hg⟩
          · clear h0 x1
            go_wp2_with fail
            (((with_reducible refine (FD.out _ HT.out).mono ?_); rintro e w3 ⟨rfl, hb3⟩); replace HB := Lib.hid (HB.out.trans (hb3.mono HB.out.size)); clear hb3)
            go_wp2_with fail
            go_ret
            exact ⟨rfl, HB.out⟩
          · rw [hg]
            clear h0 x1 hg
            go_wp2_with fail
            (((with_reducible refine (FD.out _ HT.out).mono ?_); rintro e w3 ⟨rfl, hb3⟩); replace HB := Lib.hid (HB.out.trans (hb3.mono HB.out.size)); clear hb3)
            go_wp2_with fail
            go_ret
            exact ⟨rfl, HB.out⟩
end Go.Proofs.YtlpfijdjkaijeaaDoor
