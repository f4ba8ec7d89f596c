/-
  The law FracSort: its walk.
-/
import Derived.Test.YtbcbocnblkepcaaSoH
import Derived.Test.YtbcbocnblkepcaaFrE
namespace Go.Proofs.Ytbcbocnblkepcaa
open Go.RowKit

/-- Is number t of a row this fraction? -/
def eqP (G : Nat → Nat → Int) (xn xd : Int) (t : Nat) : Bool := G t 0 == xn && G t 1 == xd
theorem law_fsort_long (A : Option Addr) (n c : Nat) (xn xd : Int) (w : World) (hn : 30 < n) (hl : n ≤ 9223372036854775807) :
    Calls Try.prog 7 #[.slice A n c, .agg #[.int .i64 xn, .int .i64 xd]] w fun e w' => e = .returned (.bool true) ∧ Below w.heap.size w w' := by
  have d : (30 : Int) < (n : Int) := by omega
  go_enter Try.func7, Try.ntmps7
  go_wp2
  go_ret
  exact ⟨rfl, by (repeat (first | exact Below.refl _ _ | assumption | refine Below.drew ?_ | refine below_drewN ?_ _ | refine Below.setCell ?_ (by first | omega | (simp; done) | (simp; omega)) _ | refine Below.alloc ?_ (by first | omega | (simp; done) | (simp; omega)) _))⟩

set_option maxRecDepth 100000 in
set_option maxHeartbeats 8000000 in
theorem law_fsort_short (A : Option Addr) (n c : Nat) (F : Nat → Nat → Int) (xn xd : Int) (w : World) (hr : RowK w A n 2 F) (hn : n ≤ 30) :
    Calls Try.prog 7 #[.slice A n c, .agg #[.int .i64 xn, .int .i64 xd]] w fun e w' => e = .returned (.bool true) ∧ Below w.heap.size w w' := by
  have R := Lib.hid hr
  clear hr
  have d30 : ¬ (30 : Int) < (n : Int) := by omega
  go_enter Try.func7, Try.ntmps7
  go_upto_region 1 with fail
  have hbx := below_new1 w (.cells #[.int .i64 xn, .int .i64 xd] 23)
  have zx : (w.alloc (.cells #[.int .i64 xn, .int .i64 xd] 23)).heap.size = w.heap.size + 1 := by simp
  have HB := Lib.hid hbx
  have kx := Lib.hid (Lok.new w 23 #[.int .i64 xn, .int .i64 xd])
  clear hbx
  generalize w.alloc (.cells #[.int .i64 xn, .int .i64 xd] 23) = Vx at *
  clear zx
  have S := Lib.hid (fsort_any A n c F Vx (R.out.keep HB.out) (by omega))
  go_wp2_with fail
  ((with_reducible refine (S.out).mono ?_); rintro e w1 ⟨g, D, rfl, hg, hb1, hG, pD, sD⟩)
  replace HB := Lib.hid (HB.out.trans (hb1.mono HB.out.size))
  replace kx := Lib.hid (kx.out.keep hb1)
  have HG := Lib.hid hG
  have HP := Lib.hid pD
  have HS := Lib.hid sD
  clear S hg hb1 hG pD sD
  go_wp2_with fail
  go_loopw [6, 8] (fun x y wr => ∃ i : Nat, x = .int .i64 (cntN (eqP (fun k j => F (D k) j) xn xd) i) ∧ y = .int .i64 i ∧ i ≤ n ∧ Below w1.heap.size w1 wr) (fun _ y _ => n - (intOf y).toNat)
  case atStart => exact ⟨0, rfl, rfl, Nat.zero_le _, Below.refl _ _⟩
  case round =>
    obtain ⟨i, rfl, rfl, hi, hB⟩ := hrel
    have HBr := Lib.hid hB
    have hcb := cntN_le (eqP (fun k j => F (D k) j) xn xd) i
    clear hB
    by_cases hlt : i < n
    · have ne : Nonempty (Of (PastF wr)) := ⟨⟨wr, Below.refl _ _⟩⟩
      have ST := Lib.hid (past_stays wr)
      go_upto_region 9 with fail
      go_cut [37] from 23 to 37 (fun x wx => x = .bool false ∧ Below wr.heap.size wr wx)
      case first =>
        rcases Nat.eq_zero_or_pos i with rfl | hpos
        · refine wp_region_class (S := PastF wr) (by kernel_rfl) (by kernel_rfl) (Below.refl _ _).drew ?_
          repeat (go_big_quiet_step (first | fail))
          refine wpQuiet_nil ?_
          rintro _ ⟨d, rfl⟩
          have HD := Lib.hid (show Below wr.heap.size wr d.world from d.holds)
          go_wp2_with fail
          go_meet
          case rel => exact ⟨rfl, HD.out⟩
        · obtain ⟨ip, rfl⟩ : ∃ ip, i = ip + 1 := ⟨i - 1, by omega⟩
          have z0 : ¬ 0 < cmpK F (D ip) (D (ip + 1)) := by
            have z := HS.out ip (ip + 1) (Nat.zero_le _) (Nat.lt_succ_self _) hlt
            unfold Rl at z; omega
          have dz : decide (0 < cmpK F (D ip) (D (ip + 1))) = false := decide_eq_false z0
          have C := Lib.hid (fun W => fcmp_any (F (D ip) 0) (F (D ip) 1) (F (D (ip + 1)) 0) (F (D (ip + 1)) 1) W)
          have a0 : ∀ d : Of (PastF wr), d.world.cell? ⟨g, ip * 2, none⟩ = some (.int .i64 (F (D ip) 0)) := fun d => ((HG.out.keep HBr.out).keep d.holds).cell ip (by omega) 0 (by omega)
          have a1 : ∀ d : Of (PastF wr), d.world.cell? ⟨g, ip * 2 + 1, none⟩ = some (.int .i64 (F (D ip) 1)) := fun d => ((HG.out.keep HBr.out).keep d.holds).cell ip (by omega) 1 (by omega)
          have a2 : ∀ d : Of (PastF wr), d.world.cell? ⟨g, (ip + 1) * 2, none⟩ = some (.int .i64 (F (D (ip + 1)) 0)) := fun d => ((HG.out.keep HBr.out).keep d.holds).cell (ip + 1) hlt 0 (by omega)
          have a3 : ∀ d : Of (PastF wr), d.world.cell? ⟨g, (ip + 1) * 2 + 1, none⟩ = some (.int .i64 (F (D (ip + 1)) 1)) := fun d => ((HG.out.keep HBr.out).keep d.holds).cell (ip + 1) hlt 1 (by omega)
          have e1 : IntKind.i64.wrap ((ip : Int) + 1 - 1) = (ip : Int) := by rw [show (ip : Int) + 1 - 1 = ip from by omega]; exact IntWalk.i64_in _ (by omega)
          have p1 : (0 : Int) ≤ (ip : Int) + 1 := by omega
          have q1 : (ip : Int) + 1 < (n : Int) := by omega
          have q2 : (ip : Int) < (n : Int) := by omega
          have t1 : ((ip : Int) + 1).toNat = ip + 1 := by omega
          have dg : decide ((0 : Int) < (ip : Int) + 1) = true := decide_eq_true (by omega)
          unfold cmpK at dz
          generalize cmpF (F (D ip) 0) (F (D ip) 1) (F (D (ip + 1)) 0) (F (D (ip + 1)) 1) = z at *
          generalize F (D ip) 0 = p at *
          generalize F (D ip) 1 = q at *
          generalize F (D (ip + 1)) 0 = r at *
          generalize F (D (ip + 1)) 1 = s at *
          clear z0
          refine wp_region_class (S := PastF wr) (by kernel_rfl) (by kernel_rfl) (Below.refl _ _).drew ?_
          repeat (go_big_quiet_step (first | (go_at_call 21; exact class_call ST.out _ (C.out _))))
          refine wpQuiet_nil ?_
          rintro _ ⟨d, rfl⟩
          have HD := Lib.hid (show Below wr.heap.size wr d.world from d.holds)
          clear a0 a1 a2 a3
          go_wp2_with fail
          go_meet
          case rel => exact ⟨rfl, HD.out⟩
      case rest =>
        obtain ⟨rfl, hBc⟩ := hcut
        have HC := Lib.hid (HBr.out.trans (hBc.mono HBr.out.size))
        have y0 := (HG.out.keep HC.out).cell i hlt 0 (by omega)
        have y1 := (HG.out.keep HC.out).cell i hlt 1 (by omega)
        rw [Nat.add_zero] at y0
        have kc := kx.out.keep HC.out
        have x0 := kc.cell (i := 0) rfl
        have x1 := kc.cell (i := 1) rfl
        have EP : Hid (eqP (fun k j => F (D k) j) xn xd i = (F (D i) 0 == xn && F (D i) 1 == xd)) := Lib.hid rfl
        clear kc hBc ne ST
        generalize F (D i) 0 = p at *
        generalize F (D i) 1 = q at *
        have ew : IntKind.i64.wrap ((cntN (eqP (fun k j => F (D k) j) xn xd) i : Int) + 1) = (cntN (eqP (fun k j => F (D k) j) xn xd) i : Int) + 1 := IntWalk.i64_in _ (by omega)
        cases h1 : (p == xn) with
        | false =>
          have CN := Lib.hid (cntN_no (P := eqP (fun k j => F (D k) j) xn xd) (n := i) (by rw [EP.out, h1]; rfl))
          generalize cntN (eqP (fun k j => F (D k) j) xn xd) i = m at *
          go_wp2_with fail
          go_quiet (fail)
          go_wp2
          go_roundw
          case rel => exact ⟨i + 1, by rw [CN.out], by go_num, hlt, by first | exact HC.out | exact HC.out.drew | exact below_drewN HC.out _⟩
          case measure => simp [intOf]; omega
        | true =>
          cases h2 : (q == xd) with
          | false =>
            have CN := Lib.hid (cntN_no (P := eqP (fun k j => F (D k) j) xn xd) (n := i) (by rw [EP.out, h1, h2]; rfl))
            generalize cntN (eqP (fun k j => F (D k) j) xn xd) i = m at *
            go_wp2_with fail
            go_quiet (fail)
            go_wp2
            go_roundw
            case rel => exact ⟨i + 1, by rw [CN.out], by go_num, hlt, by first | exact HC.out | exact HC.out.drew | exact below_drewN HC.out _⟩
            case measure => simp [intOf]; omega
          | true =>
            have CN := Lib.hid (cntN_yes (P := eqP (fun k j => F (D k) j) xn xd) (n := i) (by rw [EP.out, h1, h2]; rfl))
            generalize cntN (eqP (fun k j => F (D k) j) xn xd) i = m at *
            go_wp2_with fail
            go_quiet (fail)
            go_wp2
            go_roundw
            case rel => exact ⟨i + 1, congrArg (Value.int .i64) (by have := CN.out; omega), by go_num, hlt, by first | exact HC.out | exact HC.out.drew | exact below_drewN HC.out _⟩
            case measure => simp [intOf]; omega
    · obtain rfl : i = n := by omega
      have CE : Hid (cntN (eqP (fun k j => F (D k) j) xn xd) i = cntN (eqP F xn xd) i) := Lib.hid (cntN_pm HP.out (eqP F xn xd))
      rw [CE.out]
      obtain ⟨cnt, hcnt⟩ : ∃ cnt, cnt = cntN (eqP F xn xd) i := ⟨_, rfl⟩
      rw [← hcnt]
      have HN := Lib.hid hcnt
      clear hcnt hcb CE
      replace HB := Lib.hid (HB.out.trans (HBr.out.mono HB.out.size))
      replace kx := Lib.hid (kx.out.keep HBr.out)
      replace HG := Lib.hid (HG.out.keep HBr.out)
      obtain ⟨w2, ew2⟩ : ∃ w2, w2 = wr := ⟨_, rfl⟩
      rw [← ew2] at HB kx HG ⊢
      clear ew2 HBr
      go_wp2_with fail
      go_loopw [7, 9] (fun x y wr => ∃ j : Nat, x = .int .i64 (cntN (eqP F xn xd) j) ∧ y = .int .i64 j ∧ j ≤ i ∧ Below w2.heap.size w2 wr) (fun _ y _ => i - (intOf y).toNat)
      case atStart => exact ⟨0, rfl, rfl, Nat.zero_le _, Below.refl _ _⟩
      case round =>
        obtain ⟨j, rfl, rfl, hj, hB⟩ := hrel
        have HC := Lib.hid hB
        have hcb := cntN_le (eqP F xn xd) j
        clear hB
        by_cases hlt : j < i
        · obtain ⟨b, o, rfl, hb, hc⟩ := (R.out.keep (HB.out.trans (HC.out.mono HB.out.size))).at hlt
          have y0 := hc j hlt 0 (by omega)
          have y1 := hc j hlt 1 (by omega)
          rw [Nat.add_zero] at y0
          rw [← Nat.add_assoc] at y1
          have kc := kx.out.keep HC.out
          have x0 := kc.cell (i := 0) rfl
          have x1 := kc.cell (i := 1) rfl
          have EP : Hid (eqP F xn xd j = (F j 0 == xn && F j 1 == xd)) := Lib.hid rfl
          clear kc hc
          generalize F j 0 = p at *
          generalize F j 1 = q at *
          have ew : IntKind.i64.wrap ((cntN (eqP F xn xd) j : Int) + 1) = (cntN (eqP F xn xd) j : Int) + 1 := IntWalk.i64_in _ (by omega)
          cases h1 : (p == xn) with
          | false =>
            have CN := Lib.hid (cntN_no (P := eqP F xn xd) (n := j) (by rw [EP.out, h1]; rfl))
            generalize cntN (eqP F xn xd) j = m at *
            go_wp2_with fail
            go_quiet (fail)
            go_wp2
            go_roundw
            case rel => exact ⟨j + 1, by rw [CN.out], by go_num, hlt, by first | exact HC.out | exact HC.out.drew | exact below_drewN HC.out _⟩
            case measure => simp [intOf]; omega
          | true =>
            cases h2 : (q == xd) with
            | false =>
              have CN := Lib.hid (cntN_no (P := eqP F xn xd) (n := j) (by rw [EP.out, h1, h2]; rfl))
              generalize cntN (eqP F xn xd) j = m at *
              go_wp2_with fail
              go_quiet (fail)
              go_wp2
              go_roundw
              case rel => exact ⟨j + 1, by rw [CN.out], by go_num, hlt, by first | exact HC.out | exact HC.out.drew | exact below_drewN HC.out _⟩
              case measure => simp [intOf]; omega
            | true =>
              have CN := Lib.hid (cntN_yes (P := eqP F xn xd) (n := j) (by rw [EP.out, h1, h2]; rfl))
              generalize cntN (eqP F xn xd) j = m at *
              go_wp2_with fail
              go_quiet (fail)
              go_wp2
              go_roundw
              case rel => exact ⟨j + 1, congrArg (Value.int .i64) (by have := CN.out; omega), by go_num, hlt, by first | exact HC.out | exact HC.out.drew | exact below_drewN HC.out _⟩
              case measure => simp [intOf]; omega
        · obtain rfl : j = i := by omega
          rw [← HN.out]
          clear HN hcb
          replace HB := Lib.hid (HB.out.trans (HC.out.mono HB.out.size))
          replace HG := Lib.hid (HG.out.keep HC.out)
          clear kx HC
          have LE := Lib.hid (least_any A j c F wr (R.out.keep HB.out) (by omega))
          have hl := lsF_le F j
          go_wp2_with fail
          ((with_reducible refine (LE.out).mono ?_); rintro e w3 ⟨rfl, hb3⟩)
          obtain ⟨bb, hbb⟩ : ∃ bb, bb = decide (0 < j) := ⟨_, rfl⟩
          rw [← hbb]
          have HBb := Lib.hid hbb
          clear hbb
          replace HB := Lib.hid (HB.out.trans (hb3.mono HB.out.size))
          replace HG := Lib.hid (HG.out.keep hb3)
          clear LE hb3
          go_upto_region 19 with fail
          have ne : Nonempty (Of (PastF w3)) := ⟨⟨w3, Below.refl _ _⟩⟩
          go_cut [99] from 65 to 99 (fun x wx => x = .bool false ∧ Below w3.heap.size w3 wx)
          case first =>
            rcases Nat.eq_zero_or_pos j with hzero | hpos
            · have dp : decide (0 < j) = false := decide_eq_false (by omega)
              have dp2 : decide ((0 : Int) < (j : Int)) = false := decide_eq_false (by omega)
              clear hzero hl
              obtain rfl : bb = false := by rw [HBb.out]; exact dp
              generalize lsF F j = m at *
              refine wp_region_class (S := PastF w3) (by kernel_rfl) (by kernel_rfl) (Below.refl _ _).drew ?_
              repeat (go_big_quiet_step (first | fail))
              refine wpQuiet_nil ?_
              rintro _ ⟨d, rfl⟩
              have HD := Lib.hid (show Below w3.heap.size w3 d.world from d.holds)
              go_wp2_with fail
              go_meet
              case rel => exact ⟨rfl, HD.out⟩
            · have dp : decide (0 < j) = true := decide_eq_true hpos
              obtain rfl : bb = true := by rw [HBb.out]; exact dp
              have dp2 : decide ((0 : Int) < (j : Int)) = true := decide_eq_true (by omega)
              have FL := first_least F HP.out HS.out hpos
              obtain ⟨b, o, rfl, hb, hc⟩ := (R.out.keep HB.out).at hpos
              have hlj := lsF_lt F hpos
              have c0 := hc (lsF F j) hlj 0 (by omega)
              have c1 := hc (lsF F j) hlj 1 (by omega)
              rw [Nat.add_zero] at c0
              rw [← Nat.add_assoc] at c1
              have g0 := HG.out.cell 0 hpos 0 (by omega)
              have g1 := HG.out.cell 0 hpos 1 (by omega)
              simp only [Nat.zero_mul, Nat.add_zero, Nat.zero_add] at g0 g1
              rw [FL] at g0 g1
              clear hc FL
              have a0 : ∀ d : Of (PastF w3), d.world.cell? ⟨b, o + lsF F j * 2, none⟩ = some (.int .i64 (F (lsF F j) 0)) := fun d => keepc d.holds c0
              have a1 : ∀ d : Of (PastF w3), d.world.cell? ⟨b, o + lsF F j * 2 + 1, none⟩ = some (.int .i64 (F (lsF F j) 1)) := fun d => keepc d.holds c1
              have a2 : ∀ d : Of (PastF w3), d.world.cell? ⟨g, 0, none⟩ = some (.int .i64 (F (lsF F j) 0)) := fun d => keepc d.holds g0
              have a3 : ∀ d : Of (PastF w3), d.world.cell? ⟨g, 1, none⟩ = some (.int .i64 (F (lsF F j) 1)) := fun d => keepc d.holds g1
              generalize F (lsF F j) 0 = p at *
              generalize F (lsF F j) 1 = q at *
              generalize lsF F j = m at *
              have dm : decide ((m : Int) < 0) = false := decide_eq_false (by omega)
              have dm2 : decide ((j : Int) ≤ (m : Int)) = false := decide_eq_false (by omega)
              have dm3 : decide (j ≤ m) = false := decide_eq_false (by omega)
              have q1 : (m : Int) < (j : Int) := by omega
              clear c0 c1 g0 g1
              refine wp_region_class (S := PastF w3) (by kernel_rfl) (by kernel_rfl) (Below.refl _ _).drew ?_
              repeat (go_big_quiet_step (first | fail))
              refine wpQuiet_nil ?_
              rintro _ ⟨d, rfl⟩
              have HD := Lib.hid (show Below w3.heap.size w3 d.world from d.holds)
              clear a0 a1 a2 a3
              go_wp2_with fail
              go_meet
              case rel => exact ⟨rfl, HD.out⟩
          case rest =>
            obtain ⟨rfl, hBc⟩ := hcut
            replace HB := Lib.hid (HB.out.trans (hBc.mono HB.out.size))
            replace HG := Lib.hid (HG.out.keep hBc)
            clear hBc ne hl
            go_wp2_with fail
            (((with_reducible refine (fshared_any _).mono ?_); rintro e w4 ⟨rfl, hb4⟩); replace HB := Lib.hid (HB.out.trans (hb4.mono HB.out.size)); replace HG := Lib.hid (HG.out.keep hb4); clear hb4)
            go_wp2_with fail
            have S2 := Lib.hid (fsort_any (some ⟨g, 0, none⟩) j j _ w4 HG.out.rowK (by omega))
            ((with_reducible refine (S2.out).mono ?_); rintro e w5 ⟨g', E, rfl, -, hb5, hG5, pE, sE⟩)
            replace HB := Lib.hid (HB.out.trans (hb5.mono HB.out.size))
            replace HG := Lib.hid (HG.out.keep hb5)
            have AG := sort_again F HS.out pE sE
            have HG5 := Lib.hid (hG5.congr (H := fun k j => F (D k) j) (fun k hk j _ => by rw [AG k hk]))
            clear hb5 hG5 pE sE AG S2
            have SM := Lib.hid (fsame_any (some ⟨g', 0, none⟩) (some ⟨g, 0, none⟩) j j j _ w5 HG5.out.rowK HG.out.rowK (by omega))
            go_wp2_with fail
            (((with_reducible refine (SM.out).mono ?_); rintro e w6 ⟨rfl, hb6⟩); replace HB := Lib.hid (HB.out.trans (hb6.mono HB.out.size)); clear hb6)
            go_wp2
            go_ret
            exact ⟨rfl, HB.out⟩
theorem law_fsort (A : Option Addr) (n c : Nat) (F : Nat → Nat → Int) (xn xd : Int) (w : World) (hr : RowK w A n 2 F) (hn : n ≤ 9223372036854775807) :
    Calls Try.prog 7 #[.slice A n c, .agg #[.int .i64 xn, .int .i64 xd]] w fun e w' => e = .returned (.bool true) ∧ Below w.heap.size w w' := by
  by_cases h : n ≤ 30
  · exact law_fsort_short A n c F xn xd w hr h
  · exact law_fsort_long A n c xn xd w (by omega) hn
end Go.Proofs.Ytbcbocnblkepcaa
