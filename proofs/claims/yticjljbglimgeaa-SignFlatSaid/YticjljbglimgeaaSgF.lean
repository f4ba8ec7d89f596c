/-
  The law SignFlat: its walk. (gen/SgF.py)
-/
import Derived.Test.YticjljbglimgeaaSgL
import Derived.Test.YticjljbglimgeaaVcAm
import Derived.Deep.CutRange
namespace Go.Proofs.Yticjljbglimgeaa
open Go.RowKit

set_option maxRecDepth 100000 in
set_option maxHeartbeats 16000000 in
theorem law_flat_none (a1 a2 a3 b1 b2 b3 c1 c2 c3 d1 d2 d3 v e n1 n2 n3 e3 h ax sd : Int) (w : World)
    (V1 : Hid (∀ W, Calls Try.prog 12 #[.agg #[.int .i64 a1, .int .i64 a2, .int .i64 a3], .agg #[.int .i64 b1, .int .i64 b2, .int .i64 b3], .agg #[.int .i64 c1, .int .i64 c2, .int .i64 c3], .agg #[.int .i64 d1, .int .i64 d2, .int .i64 d3]] W fun e' w' => e' = .returned (.tuple #[.int .i64 v, .int .i64 e]) ∧ Below W.heap.size W w'))
    (V2 : Hid (∀ W, Calls Try.prog 12 #[.agg #[.int .i64 a1, .int .i64 a2, .int .i64 a3], .agg #[.int .i64 b1, .int .i64 b2, .int .i64 b3], .agg #[.int .i64 d1, .int .i64 d2, .int .i64 d3], .agg #[.int .i64 c1, .int .i64 c2, .int .i64 c3]] W fun e' w' => e' = .returned (.tuple #[.int .i64 (-v), .int .i64 e]) ∧ Below W.heap.size W w'))
    (hv : v = 0 ∨ (v ≠ 0 ∧ q3 a1 a2 a3 b1 b2 b3 = false ∧ q3 b1 b2 b3 c1 c2 c3 = false ∧ q3 c1 c2 c3 d1 d2 d3 = false ∧ q3 a1 a2 a3 d1 d2 d3 = false))
    (N1 : Hid (∀ W, Calls Try.prog 14 #[.agg #[.int .i64 a1, .int .i64 a2, .int .i64 a3], .agg #[.int .i64 b1, .int .i64 b2, .int .i64 b3], .agg #[.int .i64 c1, .int .i64 c2, .int .i64 c3]] W fun e' w' => e' = .returned (.tuple #[.agg #[.int .i64 n1, .int .i64 n2, .int .i64 n3], .int .i64 e3]) ∧ Below W.heap.size W w'))
    (F1 : Hid (∀ W, Calls Try.prog 16 #[.agg #[.int .i64 a1, .int .i64 a2, .int .i64 a3], .agg #[.int .i64 b1, .int .i64 b2, .int .i64 b3], .agg #[.int .i64 c1, .int .i64 c2, .int .i64 c3]] W fun e' w' => e' = .returned (.tuple #[.int .i64 ax, .int .i64 sd, .int .i64 h]) ∧ Below W.heap.size W w'))
    (he : 5 = e3) (hh : 5 = h) (hax : 0 = ax) (hsd : 0 = sd) :
    Calls Try.prog 7 #[.agg #[.int .i64 a1, .int .i64 a2, .int .i64 a3], .agg #[.int .i64 b1, .int .i64 b2, .int .i64 b3], .agg #[.int .i64 c1, .int .i64 c2, .int .i64 c3], .agg #[.int .i64 d1, .int .i64 d2, .int .i64 d3]] w fun e' w' => e' = .returned (.bool true) ∧ Below w.heap.size w w' := by
  subst he hh hax hsd
  have HB := Lib.hid (Below.refl w.heap.size w)
  have o0 : v + -v = 0 := by omega
  have HV := Lib.hid hv
  clear hv
  go_enter Try.func7, Try.ntmps7
  go_upto_region 1 with fail
  have hbx := below_new1 w (.cells #[.int .i64 a1, .int .i64 a2, .int .i64 a3] 25)
  have zx : (w.alloc (.cells #[.int .i64 a1, .int .i64 a2, .int .i64 a3] 25)).heap.size = w.heap.size + 1 := by simp
  have HB := Lib.hid hbx
  have kx := Lib.hid (Lok.new w 25 #[.int .i64 a1, .int .i64 a2, .int .i64 a3])
  clear hbx
  generalize w.alloc (.cells #[.int .i64 a1, .int .i64 a2, .int .i64 a3] 25) = Vx at *
  have hby := below_new1 Vx (.cells #[.int .i64 b1, .int .i64 b2, .int .i64 b3] 25)
  replace kx := Lib.hid (kx.out.keep hby)
  have zy : (Vx.alloc (.cells #[.int .i64 b1, .int .i64 b2, .int .i64 b3] 25)).heap.size = Vx.heap.size + 1 := by simp
  replace HB := Lib.hid (HB.out.trans (hby.mono HB.out.size))
  have ky := Lib.hid (Lok.new Vx 25 #[.int .i64 b1, .int .i64 b2, .int .i64 b3])
  clear hby
  generalize Vx.alloc (.cells #[.int .i64 b1, .int .i64 b2, .int .i64 b3] 25) = Vy at *
  rw [zx] at ky zy
  have hbz := below_new1 Vy (.cells #[.int .i64 c1, .int .i64 c2, .int .i64 c3] 25)
  replace kx := Lib.hid (kx.out.keep hbz)
  replace ky := Lib.hid (ky.out.keep hbz)
  have zz : (Vy.alloc (.cells #[.int .i64 c1, .int .i64 c2, .int .i64 c3] 25)).heap.size = Vy.heap.size + 1 := by simp
  replace HB := Lib.hid (HB.out.trans (hbz.mono HB.out.size))
  have kz := Lib.hid (Lok.new Vy 25 #[.int .i64 c1, .int .i64 c2, .int .i64 c3])
  clear hbz
  generalize Vy.alloc (.cells #[.int .i64 c1, .int .i64 c2, .int .i64 c3] 25) = Vz at *
  rw [zy] at kz zz
  have hbu := below_new1 Vz (.cells #[.int .i64 d1, .int .i64 d2, .int .i64 d3] 25)
  replace kx := Lib.hid (kx.out.keep hbu)
  replace ky := Lib.hid (ky.out.keep hbu)
  replace kz := Lib.hid (kz.out.keep hbu)
  have zu : (Vz.alloc (.cells #[.int .i64 d1, .int .i64 d2, .int .i64 d3] 25)).heap.size = Vz.heap.size + 1 := by simp
  replace HB := Lib.hid (HB.out.trans (hbu.mono HB.out.size))
  have ku := Lib.hid (Lok.new Vz 25 #[.int .i64 d1, .int .i64 d2, .int .i64 d3])
  clear hbu
  generalize Vz.alloc (.cells #[.int .i64 d1, .int .i64 d2, .int .i64 d3] 25) = Vu at *
  rw [zz] at ku
  clear zx zy zz zu
  have x0 := kx.out.cell (i := 0) rfl
  have x1 := kx.out.cell (i := 1) rfl
  have x2 := kx.out.cell (i := 2) rfl
  have y0 := ky.out.cell (i := 0) rfl
  have y1 := ky.out.cell (i := 1) rfl
  have y2 := ky.out.cell (i := 2) rfl
  have z0 := kz.out.cell (i := 0) rfl
  have z1 := kz.out.cell (i := 1) rfl
  have z2 := kz.out.cell (i := 2) rfl
  have u0 := ku.out.cell (i := 0) rfl
  have u1 := ku.out.cell (i := 1) rfl
  have u2 := ku.out.cell (i := 2) rfl
  go_wp2_with fail
  clear x0 x1 x2 y0 y1 y2 z0 z1 z2 u0 u1 u2
  (((with_reducible refine (V1.out _).mono ?_); rintro e w1 ⟨rfl, hb1⟩); replace HB := Lib.hid (HB.out.trans (hb1.mono HB.out.size)); replace kx := Lib.hid (kx.out.keep hb1); replace ky := Lib.hid (ky.out.keep hb1); replace kz := Lib.hid (kz.out.keep hb1); replace ku := Lib.hid (ku.out.keep hb1); clear hb1)
  have x0 := kx.out.cell (i := 0) rfl
  have x1 := kx.out.cell (i := 1) rfl
  have x2 := kx.out.cell (i := 2) rfl
  have y0 := ky.out.cell (i := 0) rfl
  have y1 := ky.out.cell (i := 1) rfl
  have y2 := ky.out.cell (i := 2) rfl
  have z0 := kz.out.cell (i := 0) rfl
  have z1 := kz.out.cell (i := 1) rfl
  have z2 := kz.out.cell (i := 2) rfl
  have u0 := ku.out.cell (i := 0) rfl
  have u1 := ku.out.cell (i := 1) rfl
  have u2 := ku.out.cell (i := 2) rfl
  go_wp2_with fail
  clear x0 x1 x2 y0 y1 y2 z0 z1 z2 u0 u1 u2
  (((with_reducible refine (V2.out _).mono ?_); rintro e w2 ⟨rfl, hb2⟩); replace HB := Lib.hid (HB.out.trans (hb2.mono HB.out.size)); replace kx := Lib.hid (kx.out.keep hb2); replace ky := Lib.hid (ky.out.keep hb2); replace kz := Lib.hid (kz.out.keep hb2); replace ku := Lib.hid (ku.out.keep hb2); clear hb2)
  clear V1 V2
  go_upto_region 3 with fail
  go_cut [68] from 36 to 68 (fun c wx => c = .bool false ∧ wx = w2)
  case first =>
    rcases HV.out with hv | ⟨hv, g1, g2, g3, g4⟩
    · have j0 : (v != 0) = false := by rw [hv]; rfl
      clear hv
      cases g1 : q3 a1 a2 a3 b1 b2 b3 with
      | true =>
        skip
        have x0 := kx.out.cell (i := 0) rfl
        have x1 := kx.out.cell (i := 1) rfl
        have x2 := kx.out.cell (i := 2) rfl
        have y0 := ky.out.cell (i := 0) rfl
        have y1 := ky.out.cell (i := 1) rfl
        have y2 := ky.out.cell (i := 2) rfl
        have z0 := kz.out.cell (i := 0) rfl
        have z1 := kz.out.cell (i := 1) rfl
        have z2 := kz.out.cell (i := 2) rfl
        have u0 := ku.out.cell (i := 0) rfl
        have u1 := ku.out.cell (i := 1) rfl
        have u2 := ku.out.cell (i := 2) rfl
        clear HV
        go_wp2_with fail
        go_meet
        case rel => exact ⟨rfl, rfl⟩
      | false =>
        cases g2 : q3 b1 b2 b3 c1 c2 c3 with
        | true =>
          skip
          have x0 := kx.out.cell (i := 0) rfl
          have x1 := kx.out.cell (i := 1) rfl
          have x2 := kx.out.cell (i := 2) rfl
          have y0 := ky.out.cell (i := 0) rfl
          have y1 := ky.out.cell (i := 1) rfl
          have y2 := ky.out.cell (i := 2) rfl
          have z0 := kz.out.cell (i := 0) rfl
          have z1 := kz.out.cell (i := 1) rfl
          have z2 := kz.out.cell (i := 2) rfl
          have u0 := ku.out.cell (i := 0) rfl
          have u1 := ku.out.cell (i := 1) rfl
          have u2 := ku.out.cell (i := 2) rfl
          clear HV
          go_wp2_with fail
          go_meet
          case rel => exact ⟨rfl, rfl⟩
        | false =>
          cases g3 : q3 c1 c2 c3 d1 d2 d3 with
          | true =>
            skip
            have x0 := kx.out.cell (i := 0) rfl
            have x1 := kx.out.cell (i := 1) rfl
            have x2 := kx.out.cell (i := 2) rfl
            have y0 := ky.out.cell (i := 0) rfl
            have y1 := ky.out.cell (i := 1) rfl
            have y2 := ky.out.cell (i := 2) rfl
            have z0 := kz.out.cell (i := 0) rfl
            have z1 := kz.out.cell (i := 1) rfl
            have z2 := kz.out.cell (i := 2) rfl
            have u0 := ku.out.cell (i := 0) rfl
            have u1 := ku.out.cell (i := 1) rfl
            have u2 := ku.out.cell (i := 2) rfl
            clear HV
            go_wp2_with fail
            go_meet
            case rel => exact ⟨rfl, rfl⟩
          | false =>
            cases g4 : q3 a1 a2 a3 d1 d2 d3 with
            | true =>
              skip
              have x0 := kx.out.cell (i := 0) rfl
              have x1 := kx.out.cell (i := 1) rfl
              have x2 := kx.out.cell (i := 2) rfl
              have y0 := ky.out.cell (i := 0) rfl
              have y1 := ky.out.cell (i := 1) rfl
              have y2 := ky.out.cell (i := 2) rfl
              have z0 := kz.out.cell (i := 0) rfl
              have z1 := kz.out.cell (i := 1) rfl
              have z2 := kz.out.cell (i := 2) rfl
              have u0 := ku.out.cell (i := 0) rfl
              have u1 := ku.out.cell (i := 1) rfl
              have u2 := ku.out.cell (i := 2) rfl
              clear HV
              go_wp2_with fail
              go_meet
              case rel => exact ⟨rfl, rfl⟩
            | false =>
              skip
              have x0 := kx.out.cell (i := 0) rfl
              have x1 := kx.out.cell (i := 1) rfl
              have x2 := kx.out.cell (i := 2) rfl
              have y0 := ky.out.cell (i := 0) rfl
              have y1 := ky.out.cell (i := 1) rfl
              have y2 := ky.out.cell (i := 2) rfl
              have z0 := kz.out.cell (i := 0) rfl
              have z1 := kz.out.cell (i := 1) rfl
              have z2 := kz.out.cell (i := 2) rfl
              have u0 := ku.out.cell (i := 0) rfl
              have u1 := ku.out.cell (i := 1) rfl
              have u2 := ku.out.cell (i := 2) rfl
              clear HV
              go_wp2_with fail
              go_meet
              case rel => exact ⟨rfl, rfl⟩
    · have j0 : (v != 0) = true := by rw [bne_iff_ne]; exact hv
      clear hv
      have x0 := kx.out.cell (i := 0) rfl
      have x1 := kx.out.cell (i := 1) rfl
      have x2 := kx.out.cell (i := 2) rfl
      have y0 := ky.out.cell (i := 0) rfl
      have y1 := ky.out.cell (i := 1) rfl
      have y2 := ky.out.cell (i := 2) rfl
      have z0 := kz.out.cell (i := 0) rfl
      have z1 := kz.out.cell (i := 1) rfl
      have z2 := kz.out.cell (i := 2) rfl
      have u0 := ku.out.cell (i := 0) rfl
      have u1 := ku.out.cell (i := 1) rfl
      have u2 := ku.out.cell (i := 2) rfl
      clear HV
      go_wp2_with fail
      go_meet
      case rel => exact ⟨rfl, rfl⟩
  case rest =>
    obtain ⟨rfl, rfl⟩ := hcut
    clear HV o0
    have x0 := kx.out.cell (i := 0) rfl
    have x1 := kx.out.cell (i := 1) rfl
    have x2 := kx.out.cell (i := 2) rfl
    have y0 := ky.out.cell (i := 0) rfl
    have y1 := ky.out.cell (i := 1) rfl
    have y2 := ky.out.cell (i := 2) rfl
    have z0 := kz.out.cell (i := 0) rfl
    have z1 := kz.out.cell (i := 1) rfl
    have z2 := kz.out.cell (i := 2) rfl
    go_wp2_with fail
    clear x0 x1 x2 y0 y1 y2 z0 z1 z2
    ((with_reducible refine (N1.out _).mono ?_); rintro e wm ⟨rfl, hbm⟩)
    replace HB := Lib.hid (HB.out.trans (hbm.mono HB.out.size))
    replace kx := Lib.hid (kx.out.keep hbm)
    replace ky := Lib.hid (ky.out.keep hbm)
    replace kz := Lib.hid (kz.out.keep hbm)
    clear hbm
    go_upto_region 6 with fail
    have hbm := below_new1 wm (.cells #[.int .i64 n1, .int .i64 n2, .int .i64 n3] 25)
    replace HB := Lib.hid (HB.out.trans (hbm.mono HB.out.size))
    replace kx := Lib.hid (kx.out.keep hbm)
    replace ky := Lib.hid (ky.out.keep hbm)
    replace kz := Lib.hid (kz.out.keep hbm)
    have km := Lib.hid (Lok.new wm 25 #[.int .i64 n1, .int .i64 n2, .int .i64 n3])
    clear hbm
    generalize wm.alloc (.cells #[.int .i64 n1, .int .i64 n2, .int .i64 n3] 25) = Vm at *
    generalize wm.heap.size = gm at *
    have x0 := kx.out.cell (i := 0) rfl
    have x1 := kx.out.cell (i := 1) rfl
    have x2 := kx.out.cell (i := 2) rfl
    have y0 := ky.out.cell (i := 0) rfl
    have y1 := ky.out.cell (i := 1) rfl
    have y2 := ky.out.cell (i := 2) rfl
    have z0 := kz.out.cell (i := 0) rfl
    have z1 := kz.out.cell (i := 1) rfl
    have z2 := kz.out.cell (i := 2) rfl
    go_wp2_with fail
    clear x0 x1 x2 y0 y1 y2 z0 z1 z2
    (((with_reducible refine (F1.out _).mono ?_); rintro e w3 ⟨rfl, hb3⟩); replace HB := Lib.hid (HB.out.trans (hb3.mono HB.out.size)); replace kx := Lib.hid (kx.out.keep hb3); replace ky := Lib.hid (ky.out.keep hb3); replace kz := Lib.hid (kz.out.keep hb3); replace km := Lib.hid (km.out.keep hb3); clear hb3)
    clear N1 F1
    go_wp2_with fail
    (((with_reducible refine (sided_any _).mono ?_); rintro e w4 ⟨rfl, hb4⟩); replace HB := Lib.hid (HB.out.trans (hb4.mono HB.out.size)); replace km := Lib.hid (km.out.keep hb4); clear hb4)
    have m0 := km.out.cell (i := 0) rfl
    have m1 := km.out.cell (i := 1) rfl
    have m2 := km.out.cell (i := 2) rfl
    go_wp2
    go_ret
    exact ⟨rfl, HB.out⟩
set_option maxRecDepth 100000 in
set_option maxHeartbeats 16000000 in
theorem law_flat_zero (a1 a2 a3 b1 b2 b3 c1 c2 c3 d1 d2 d3 v e n1 n2 n3 e3 h ax sd : Int) (w : World)
    (V1 : Hid (∀ W, Calls Try.prog 12 #[.agg #[.int .i64 a1, .int .i64 a2, .int .i64 a3], .agg #[.int .i64 b1, .int .i64 b2, .int .i64 b3], .agg #[.int .i64 c1, .int .i64 c2, .int .i64 c3], .agg #[.int .i64 d1, .int .i64 d2, .int .i64 d3]] W fun e' w' => e' = .returned (.tuple #[.int .i64 v, .int .i64 e]) ∧ Below W.heap.size W w'))
    (V2 : Hid (∀ W, Calls Try.prog 12 #[.agg #[.int .i64 a1, .int .i64 a2, .int .i64 a3], .agg #[.int .i64 b1, .int .i64 b2, .int .i64 b3], .agg #[.int .i64 d1, .int .i64 d2, .int .i64 d3], .agg #[.int .i64 c1, .int .i64 c2, .int .i64 c3]] W fun e' w' => e' = .returned (.tuple #[.int .i64 (-v), .int .i64 e]) ∧ Below W.heap.size W w'))
    (hv : v = 0 ∨ (v ≠ 0 ∧ q3 a1 a2 a3 b1 b2 b3 = false ∧ q3 b1 b2 b3 c1 c2 c3 = false ∧ q3 c1 c2 c3 d1 d2 d3 = false ∧ q3 a1 a2 a3 d1 d2 d3 = false))
    (N1 : Hid (∀ W, Calls Try.prog 14 #[.agg #[.int .i64 a1, .int .i64 a2, .int .i64 a3], .agg #[.int .i64 b1, .int .i64 b2, .int .i64 b3], .agg #[.int .i64 c1, .int .i64 c2, .int .i64 c3]] W fun e' w' => e' = .returned (.tuple #[.agg #[.int .i64 n1, .int .i64 n2, .int .i64 n3], .int .i64 e3]) ∧ Below W.heap.size W w'))
    (F1 : Hid (∀ W, Calls Try.prog 16 #[.agg #[.int .i64 a1, .int .i64 a2, .int .i64 a3], .agg #[.int .i64 b1, .int .i64 b2, .int .i64 b3], .agg #[.int .i64 c1, .int .i64 c2, .int .i64 c3]] W fun e' w' => e' = .returned (.tuple #[.int .i64 ax, .int .i64 sd, .int .i64 h]) ∧ Below W.heap.size W w'))
    (he : 0 = e3) (hh : 3 = h) (hax : 0 = ax) (hsd : 0 = sd) (hz : q3 n1 n2 n3 0 0 0 = true) :
    Calls Try.prog 7 #[.agg #[.int .i64 a1, .int .i64 a2, .int .i64 a3], .agg #[.int .i64 b1, .int .i64 b2, .int .i64 b3], .agg #[.int .i64 c1, .int .i64 c2, .int .i64 c3], .agg #[.int .i64 d1, .int .i64 d2, .int .i64 d3]] w fun e' w' => e' = .returned (.bool true) ∧ Below w.heap.size w w' := by
  subst he hh hax hsd
  have HB := Lib.hid (Below.refl w.heap.size w)
  have o0 : v + -v = 0 := by omega
  have HV := Lib.hid hv
  clear hv
  go_enter Try.func7, Try.ntmps7
  go_upto_region 1 with fail
  have hbx := below_new1 w (.cells #[.int .i64 a1, .int .i64 a2, .int .i64 a3] 25)
  have zx : (w.alloc (.cells #[.int .i64 a1, .int .i64 a2, .int .i64 a3] 25)).heap.size = w.heap.size + 1 := by simp
  have HB := Lib.hid hbx
  have kx := Lib.hid (Lok.new w 25 #[.int .i64 a1, .int .i64 a2, .int .i64 a3])
  clear hbx
  generalize w.alloc (.cells #[.int .i64 a1, .int .i64 a2, .int .i64 a3] 25) = Vx at *
  have hby := below_new1 Vx (.cells #[.int .i64 b1, .int .i64 b2, .int .i64 b3] 25)
  replace kx := Lib.hid (kx.out.keep hby)
  have zy : (Vx.alloc (.cells #[.int .i64 b1, .int .i64 b2, .int .i64 b3] 25)).heap.size = Vx.heap.size + 1 := by simp
  replace HB := Lib.hid (HB.out.trans (hby.mono HB.out.size))
  have ky := Lib.hid (Lok.new Vx 25 #[.int .i64 b1, .int .i64 b2, .int .i64 b3])
  clear hby
  generalize Vx.alloc (.cells #[.int .i64 b1, .int .i64 b2, .int .i64 b3] 25) = Vy at *
  rw [zx] at ky zy
  have hbz := below_new1 Vy (.cells #[.int .i64 c1, .int .i64 c2, .int .i64 c3] 25)
  replace kx := Lib.hid (kx.out.keep hbz)
  replace ky := Lib.hid (ky.out.keep hbz)
  have zz : (Vy.alloc (.cells #[.int .i64 c1, .int .i64 c2, .int .i64 c3] 25)).heap.size = Vy.heap.size + 1 := by simp
  replace HB := Lib.hid (HB.out.trans (hbz.mono HB.out.size))
  have kz := Lib.hid (Lok.new Vy 25 #[.int .i64 c1, .int .i64 c2, .int .i64 c3])
  clear hbz
  generalize Vy.alloc (.cells #[.int .i64 c1, .int .i64 c2, .int .i64 c3] 25) = Vz at *
  rw [zy] at kz zz
  have hbu := below_new1 Vz (.cells #[.int .i64 d1, .int .i64 d2, .int .i64 d3] 25)
  replace kx := Lib.hid (kx.out.keep hbu)
  replace ky := Lib.hid (ky.out.keep hbu)
  replace kz := Lib.hid (kz.out.keep hbu)
  have zu : (Vz.alloc (.cells #[.int .i64 d1, .int .i64 d2, .int .i64 d3] 25)).heap.size = Vz.heap.size + 1 := by simp
  replace HB := Lib.hid (HB.out.trans (hbu.mono HB.out.size))
  have ku := Lib.hid (Lok.new Vz 25 #[.int .i64 d1, .int .i64 d2, .int .i64 d3])
  clear hbu
  generalize Vz.alloc (.cells #[.int .i64 d1, .int .i64 d2, .int .i64 d3] 25) = Vu at *
  rw [zz] at ku
  clear zx zy zz zu
  have x0 := kx.out.cell (i := 0) rfl
  have x1 := kx.out.cell (i := 1) rfl
  have x2 := kx.out.cell (i := 2) rfl
  have y0 := ky.out.cell (i := 0) rfl
  have y1 := ky.out.cell (i := 1) rfl
  have y2 := ky.out.cell (i := 2) rfl
  have z0 := kz.out.cell (i := 0) rfl
  have z1 := kz.out.cell (i := 1) rfl
  have z2 := kz.out.cell (i := 2) rfl
  have u0 := ku.out.cell (i := 0) rfl
  have u1 := ku.out.cell (i := 1) rfl
  have u2 := ku.out.cell (i := 2) rfl
  go_wp2_with fail
  clear x0 x1 x2 y0 y1 y2 z0 z1 z2 u0 u1 u2
  (((with_reducible refine (V1.out _).mono ?_); rintro e w1 ⟨rfl, hb1⟩); replace HB := Lib.hid (HB.out.trans (hb1.mono HB.out.size)); replace kx := Lib.hid (kx.out.keep hb1); replace ky := Lib.hid (ky.out.keep hb1); replace kz := Lib.hid (kz.out.keep hb1); replace ku := Lib.hid (ku.out.keep hb1); clear hb1)
  have x0 := kx.out.cell (i := 0) rfl
  have x1 := kx.out.cell (i := 1) rfl
  have x2 := kx.out.cell (i := 2) rfl
  have y0 := ky.out.cell (i := 0) rfl
  have y1 := ky.out.cell (i := 1) rfl
  have y2 := ky.out.cell (i := 2) rfl
  have z0 := kz.out.cell (i := 0) rfl
  have z1 := kz.out.cell (i := 1) rfl
  have z2 := kz.out.cell (i := 2) rfl
  have u0 := ku.out.cell (i := 0) rfl
  have u1 := ku.out.cell (i := 1) rfl
  have u2 := ku.out.cell (i := 2) rfl
  go_wp2_with fail
  clear x0 x1 x2 y0 y1 y2 z0 z1 z2 u0 u1 u2
  (((with_reducible refine (V2.out _).mono ?_); rintro e w2 ⟨rfl, hb2⟩); replace HB := Lib.hid (HB.out.trans (hb2.mono HB.out.size)); replace kx := Lib.hid (kx.out.keep hb2); replace ky := Lib.hid (ky.out.keep hb2); replace kz := Lib.hid (kz.out.keep hb2); replace ku := Lib.hid (ku.out.keep hb2); clear hb2)
  clear V1 V2
  go_upto_region 3 with fail
  go_cut [68] from 36 to 68 (fun c wx => c = .bool false ∧ wx = w2)
  case first =>
    rcases HV.out with hv | ⟨hv, g1, g2, g3, g4⟩
    · have j0 : (v != 0) = false := by rw [hv]; rfl
      clear hv
      cases g1 : q3 a1 a2 a3 b1 b2 b3 with
      | true =>
        skip
        have x0 := kx.out.cell (i := 0) rfl
        have x1 := kx.out.cell (i := 1) rfl
        have x2 := kx.out.cell (i := 2) rfl
        have y0 := ky.out.cell (i := 0) rfl
        have y1 := ky.out.cell (i := 1) rfl
        have y2 := ky.out.cell (i := 2) rfl
        have z0 := kz.out.cell (i := 0) rfl
        have z1 := kz.out.cell (i := 1) rfl
        have z2 := kz.out.cell (i := 2) rfl
        have u0 := ku.out.cell (i := 0) rfl
        have u1 := ku.out.cell (i := 1) rfl
        have u2 := ku.out.cell (i := 2) rfl
        clear HV
        go_wp2_with fail
        go_meet
        case rel => exact ⟨rfl, rfl⟩
      | false =>
        cases g2 : q3 b1 b2 b3 c1 c2 c3 with
        | true =>
          skip
          have x0 := kx.out.cell (i := 0) rfl
          have x1 := kx.out.cell (i := 1) rfl
          have x2 := kx.out.cell (i := 2) rfl
          have y0 := ky.out.cell (i := 0) rfl
          have y1 := ky.out.cell (i := 1) rfl
          have y2 := ky.out.cell (i := 2) rfl
          have z0 := kz.out.cell (i := 0) rfl
          have z1 := kz.out.cell (i := 1) rfl
          have z2 := kz.out.cell (i := 2) rfl
          have u0 := ku.out.cell (i := 0) rfl
          have u1 := ku.out.cell (i := 1) rfl
          have u2 := ku.out.cell (i := 2) rfl
          clear HV
          go_wp2_with fail
          go_meet
          case rel => exact ⟨rfl, rfl⟩
        | false =>
          cases g3 : q3 c1 c2 c3 d1 d2 d3 with
          | true =>
            skip
            have x0 := kx.out.cell (i := 0) rfl
            have x1 := kx.out.cell (i := 1) rfl
            have x2 := kx.out.cell (i := 2) rfl
            have y0 := ky.out.cell (i := 0) rfl
            have y1 := ky.out.cell (i := 1) rfl
            have y2 := ky.out.cell (i := 2) rfl
            have z0 := kz.out.cell (i := 0) rfl
            have z1 := kz.out.cell (i := 1) rfl
            have z2 := kz.out.cell (i := 2) rfl
            have u0 := ku.out.cell (i := 0) rfl
            have u1 := ku.out.cell (i := 1) rfl
            have u2 := ku.out.cell (i := 2) rfl
            clear HV
            go_wp2_with fail
            go_meet
            case rel => exact ⟨rfl, rfl⟩
          | false =>
            cases g4 : q3 a1 a2 a3 d1 d2 d3 with
            | true =>
              skip
              have x0 := kx.out.cell (i := 0) rfl
              have x1 := kx.out.cell (i := 1) rfl
              have x2 := kx.out.cell (i := 2) rfl
              have y0 := ky.out.cell (i := 0) rfl
              have y1 := ky.out.cell (i := 1) rfl
              have y2 := ky.out.cell (i := 2) rfl
              have z0 := kz.out.cell (i := 0) rfl
              have z1 := kz.out.cell (i := 1) rfl
              have z2 := kz.out.cell (i := 2) rfl
              have u0 := ku.out.cell (i := 0) rfl
              have u1 := ku.out.cell (i := 1) rfl
              have u2 := ku.out.cell (i := 2) rfl
              clear HV
              go_wp2_with fail
              go_meet
              case rel => exact ⟨rfl, rfl⟩
            | false =>
              skip
              have x0 := kx.out.cell (i := 0) rfl
              have x1 := kx.out.cell (i := 1) rfl
              have x2 := kx.out.cell (i := 2) rfl
              have y0 := ky.out.cell (i := 0) rfl
              have y1 := ky.out.cell (i := 1) rfl
              have y2 := ky.out.cell (i := 2) rfl
              have z0 := kz.out.cell (i := 0) rfl
              have z1 := kz.out.cell (i := 1) rfl
              have z2 := kz.out.cell (i := 2) rfl
              have u0 := ku.out.cell (i := 0) rfl
              have u1 := ku.out.cell (i := 1) rfl
              have u2 := ku.out.cell (i := 2) rfl
              clear HV
              go_wp2_with fail
              go_meet
              case rel => exact ⟨rfl, rfl⟩
    · have j0 : (v != 0) = true := by rw [bne_iff_ne]; exact hv
      clear hv
      have x0 := kx.out.cell (i := 0) rfl
      have x1 := kx.out.cell (i := 1) rfl
      have x2 := kx.out.cell (i := 2) rfl
      have y0 := ky.out.cell (i := 0) rfl
      have y1 := ky.out.cell (i := 1) rfl
      have y2 := ky.out.cell (i := 2) rfl
      have z0 := kz.out.cell (i := 0) rfl
      have z1 := kz.out.cell (i := 1) rfl
      have z2 := kz.out.cell (i := 2) rfl
      have u0 := ku.out.cell (i := 0) rfl
      have u1 := ku.out.cell (i := 1) rfl
      have u2 := ku.out.cell (i := 2) rfl
      clear HV
      go_wp2_with fail
      go_meet
      case rel => exact ⟨rfl, rfl⟩
  case rest =>
    obtain ⟨rfl, rfl⟩ := hcut
    clear HV o0
    have x0 := kx.out.cell (i := 0) rfl
    have x1 := kx.out.cell (i := 1) rfl
    have x2 := kx.out.cell (i := 2) rfl
    have y0 := ky.out.cell (i := 0) rfl
    have y1 := ky.out.cell (i := 1) rfl
    have y2 := ky.out.cell (i := 2) rfl
    have z0 := kz.out.cell (i := 0) rfl
    have z1 := kz.out.cell (i := 1) rfl
    have z2 := kz.out.cell (i := 2) rfl
    go_wp2_with fail
    clear x0 x1 x2 y0 y1 y2 z0 z1 z2
    ((with_reducible refine (N1.out _).mono ?_); rintro e wm ⟨rfl, hbm⟩)
    replace HB := Lib.hid (HB.out.trans (hbm.mono HB.out.size))
    replace kx := Lib.hid (kx.out.keep hbm)
    replace ky := Lib.hid (ky.out.keep hbm)
    replace kz := Lib.hid (kz.out.keep hbm)
    clear hbm
    go_upto_region 6 with fail
    have hbm := below_new1 wm (.cells #[.int .i64 n1, .int .i64 n2, .int .i64 n3] 25)
    replace HB := Lib.hid (HB.out.trans (hbm.mono HB.out.size))
    replace kx := Lib.hid (kx.out.keep hbm)
    replace ky := Lib.hid (ky.out.keep hbm)
    replace kz := Lib.hid (kz.out.keep hbm)
    have km := Lib.hid (Lok.new wm 25 #[.int .i64 n1, .int .i64 n2, .int .i64 n3])
    clear hbm
    generalize wm.alloc (.cells #[.int .i64 n1, .int .i64 n2, .int .i64 n3] 25) = Vm at *
    generalize wm.heap.size = gm at *
    have x0 := kx.out.cell (i := 0) rfl
    have x1 := kx.out.cell (i := 1) rfl
    have x2 := kx.out.cell (i := 2) rfl
    have y0 := ky.out.cell (i := 0) rfl
    have y1 := ky.out.cell (i := 1) rfl
    have y2 := ky.out.cell (i := 2) rfl
    have z0 := kz.out.cell (i := 0) rfl
    have z1 := kz.out.cell (i := 1) rfl
    have z2 := kz.out.cell (i := 2) rfl
    go_wp2_with fail
    clear x0 x1 x2 y0 y1 y2 z0 z1 z2
    (((with_reducible refine (F1.out _).mono ?_); rintro e w3 ⟨rfl, hb3⟩); replace HB := Lib.hid (HB.out.trans (hb3.mono HB.out.size)); replace kx := Lib.hid (kx.out.keep hb3); replace ky := Lib.hid (ky.out.keep hb3); replace kz := Lib.hid (kz.out.keep hb3); replace km := Lib.hid (km.out.keep hb3); clear hb3)
    clear N1 F1
    go_wp2_with fail
    (((with_reducible refine (sided_any _).mono ?_); rintro e w4 ⟨rfl, hb4⟩); replace HB := Lib.hid (HB.out.trans (hb4.mono HB.out.size)); replace km := Lib.hid (km.out.keep hb4); clear hb4)
    have m0 := km.out.cell (i := 0) rfl
    have m1 := km.out.cell (i := 1) rfl
    have m2 := km.out.cell (i := 2) rfl
    go_wp2
    go_ret
    exact ⟨rfl, HB.out⟩
set_option maxRecDepth 100000 in
set_option maxHeartbeats 16000000 in
theorem law_flat_face (a1 a2 a3 b1 b2 b3 c1 c2 c3 d1 d2 d3 v e n1 n2 n3 e3 h sd Y : Int) (m : Nat) (w : World)
    (V1 : Hid (∀ W, Calls Try.prog 12 #[.agg #[.int .i64 a1, .int .i64 a2, .int .i64 a3], .agg #[.int .i64 b1, .int .i64 b2, .int .i64 b3], .agg #[.int .i64 c1, .int .i64 c2, .int .i64 c3], .agg #[.int .i64 d1, .int .i64 d2, .int .i64 d3]] W fun e' w' => e' = .returned (.tuple #[.int .i64 v, .int .i64 e]) ∧ Below W.heap.size W w'))
    (V2 : Hid (∀ W, Calls Try.prog 12 #[.agg #[.int .i64 a1, .int .i64 a2, .int .i64 a3], .agg #[.int .i64 b1, .int .i64 b2, .int .i64 b3], .agg #[.int .i64 d1, .int .i64 d2, .int .i64 d3], .agg #[.int .i64 c1, .int .i64 c2, .int .i64 c3]] W fun e' w' => e' = .returned (.tuple #[.int .i64 (-v), .int .i64 e]) ∧ Below W.heap.size W w'))
    (hv : v = 0 ∨ (v ≠ 0 ∧ q3 a1 a2 a3 b1 b2 b3 = false ∧ q3 b1 b2 b3 c1 c2 c3 = false ∧ q3 c1 c2 c3 d1 d2 d3 = false ∧ q3 a1 a2 a3 d1 d2 d3 = false))
    (N1 : Hid (∀ W, Calls Try.prog 14 #[.agg #[.int .i64 a1, .int .i64 a2, .int .i64 a3], .agg #[.int .i64 b1, .int .i64 b2, .int .i64 b3], .agg #[.int .i64 c1, .int .i64 c2, .int .i64 c3]] W fun e' w' => e' = .returned (.tuple #[.agg #[.int .i64 n1, .int .i64 n2, .int .i64 n3], .int .i64 e3]) ∧ Below W.heap.size W w'))
    (F1 : Hid (∀ W, Calls Try.prog 16 #[.agg #[.int .i64 a1, .int .i64 a2, .int .i64 a3], .agg #[.int .i64 b1, .int .i64 b2, .int .i64 b3], .agg #[.int .i64 c1, .int .i64 c2, .int .i64 c3]] W fun e' w' => e' = .returned (.tuple #[.int .i64 (m : Int), .int .i64 sd, .int .i64 h]) ∧ Below W.heap.size W w'))
    (he : 0 = e3) (hh : 0 = h) (hm : m < 3) (hsd : sd = 1 ∨ sd = -1) (hY : IntKind.i64.wrap (pt n1 n2 n3 m * sd) = Y) (hpos : 0 < Y) (hmost : ∀ k, k < 3 → pt n1 n2 n3 k ≤ Y ∧ -pt n1 n2 n3 k ≤ Y ∧ IntKind.i64.wrap (-pt n1 n2 n3 k) = -pt n1 n2 n3 k) :
    Calls Try.prog 7 #[.agg #[.int .i64 a1, .int .i64 a2, .int .i64 a3], .agg #[.int .i64 b1, .int .i64 b2, .int .i64 b3], .agg #[.int .i64 c1, .int .i64 c2, .int .i64 c3], .agg #[.int .i64 d1, .int .i64 d2, .int .i64 d3]] w fun e' w' => e' = .returned (.bool true) ∧ Below w.heap.size w w' := by
  subst he hh
  have HB := Lib.hid (Below.refl w.heap.size w)
  have o0 : v + -v = 0 := by omega
  have HV := Lib.hid hv
  clear hv
  go_enter Try.func7, Try.ntmps7
  go_upto_region 1 with fail
  have hbx := below_new1 w (.cells #[.int .i64 a1, .int .i64 a2, .int .i64 a3] 25)
  have zx : (w.alloc (.cells #[.int .i64 a1, .int .i64 a2, .int .i64 a3] 25)).heap.size = w.heap.size + 1 := by simp
  have HB := Lib.hid hbx
  have kx := Lib.hid (Lok.new w 25 #[.int .i64 a1, .int .i64 a2, .int .i64 a3])
  clear hbx
  generalize w.alloc (.cells #[.int .i64 a1, .int .i64 a2, .int .i64 a3] 25) = Vx at *
  have hby := below_new1 Vx (.cells #[.int .i64 b1, .int .i64 b2, .int .i64 b3] 25)
  replace kx := Lib.hid (kx.out.keep hby)
  have zy : (Vx.alloc (.cells #[.int .i64 b1, .int .i64 b2, .int .i64 b3] 25)).heap.size = Vx.heap.size + 1 := by simp
  replace HB := Lib.hid (HB.out.trans (hby.mono HB.out.size))
  have ky := Lib.hid (Lok.new Vx 25 #[.int .i64 b1, .int .i64 b2, .int .i64 b3])
  clear hby
  generalize Vx.alloc (.cells #[.int .i64 b1, .int .i64 b2, .int .i64 b3] 25) = Vy at *
  rw [zx] at ky zy
  have hbz := below_new1 Vy (.cells #[.int .i64 c1, .int .i64 c2, .int .i64 c3] 25)
  replace kx := Lib.hid (kx.out.keep hbz)
  replace ky := Lib.hid (ky.out.keep hbz)
  have zz : (Vy.alloc (.cells #[.int .i64 c1, .int .i64 c2, .int .i64 c3] 25)).heap.size = Vy.heap.size + 1 := by simp
  replace HB := Lib.hid (HB.out.trans (hbz.mono HB.out.size))
  have kz := Lib.hid (Lok.new Vy 25 #[.int .i64 c1, .int .i64 c2, .int .i64 c3])
  clear hbz
  generalize Vy.alloc (.cells #[.int .i64 c1, .int .i64 c2, .int .i64 c3] 25) = Vz at *
  rw [zy] at kz zz
  have hbu := below_new1 Vz (.cells #[.int .i64 d1, .int .i64 d2, .int .i64 d3] 25)
  replace kx := Lib.hid (kx.out.keep hbu)
  replace ky := Lib.hid (ky.out.keep hbu)
  replace kz := Lib.hid (kz.out.keep hbu)
  have zu : (Vz.alloc (.cells #[.int .i64 d1, .int .i64 d2, .int .i64 d3] 25)).heap.size = Vz.heap.size + 1 := by simp
  replace HB := Lib.hid (HB.out.trans (hbu.mono HB.out.size))
  have ku := Lib.hid (Lok.new Vz 25 #[.int .i64 d1, .int .i64 d2, .int .i64 d3])
  clear hbu
  generalize Vz.alloc (.cells #[.int .i64 d1, .int .i64 d2, .int .i64 d3] 25) = Vu at *
  rw [zz] at ku
  clear zx zy zz zu
  have x0 := kx.out.cell (i := 0) rfl
  have x1 := kx.out.cell (i := 1) rfl
  have x2 := kx.out.cell (i := 2) rfl
  have y0 := ky.out.cell (i := 0) rfl
  have y1 := ky.out.cell (i := 1) rfl
  have y2 := ky.out.cell (i := 2) rfl
  have z0 := kz.out.cell (i := 0) rfl
  have z1 := kz.out.cell (i := 1) rfl
  have z2 := kz.out.cell (i := 2) rfl
  have u0 := ku.out.cell (i := 0) rfl
  have u1 := ku.out.cell (i := 1) rfl
  have u2 := ku.out.cell (i := 2) rfl
  go_wp2_with fail
  clear x0 x1 x2 y0 y1 y2 z0 z1 z2 u0 u1 u2
  (((with_reducible refine (V1.out _).mono ?_); rintro e w1 ⟨rfl, hb1⟩); replace HB := Lib.hid (HB.out.trans (hb1.mono HB.out.size)); replace kx := Lib.hid (kx.out.keep hb1); replace ky := Lib.hid (ky.out.keep hb1); replace kz := Lib.hid (kz.out.keep hb1); replace ku := Lib.hid (ku.out.keep hb1); clear hb1)
  have x0 := kx.out.cell (i := 0) rfl
  have x1 := kx.out.cell (i := 1) rfl
  have x2 := kx.out.cell (i := 2) rfl
  have y0 := ky.out.cell (i := 0) rfl
  have y1 := ky.out.cell (i := 1) rfl
  have y2 := ky.out.cell (i := 2) rfl
  have z0 := kz.out.cell (i := 0) rfl
  have z1 := kz.out.cell (i := 1) rfl
  have z2 := kz.out.cell (i := 2) rfl
  have u0 := ku.out.cell (i := 0) rfl
  have u1 := ku.out.cell (i := 1) rfl
  have u2 := ku.out.cell (i := 2) rfl
  go_wp2_with fail
  clear x0 x1 x2 y0 y1 y2 z0 z1 z2 u0 u1 u2
  (((with_reducible refine (V2.out _).mono ?_); rintro e w2 ⟨rfl, hb2⟩); replace HB := Lib.hid (HB.out.trans (hb2.mono HB.out.size)); replace kx := Lib.hid (kx.out.keep hb2); replace ky := Lib.hid (ky.out.keep hb2); replace kz := Lib.hid (kz.out.keep hb2); replace ku := Lib.hid (ku.out.keep hb2); clear hb2)
  clear V1 V2
  go_upto_region 3 with fail
  go_cut [68] from 36 to 68 (fun c wx => c = .bool false ∧ wx = w2)
  case first =>
    rcases HV.out with hv | ⟨hv, g1, g2, g3, g4⟩
    · have j0 : (v != 0) = false := by rw [hv]; rfl
      clear hv
      cases g1 : q3 a1 a2 a3 b1 b2 b3 with
      | true =>
        skip
        have x0 := kx.out.cell (i := 0) rfl
        have x1 := kx.out.cell (i := 1) rfl
        have x2 := kx.out.cell (i := 2) rfl
        have y0 := ky.out.cell (i := 0) rfl
        have y1 := ky.out.cell (i := 1) rfl
        have y2 := ky.out.cell (i := 2) rfl
        have z0 := kz.out.cell (i := 0) rfl
        have z1 := kz.out.cell (i := 1) rfl
        have z2 := kz.out.cell (i := 2) rfl
        have u0 := ku.out.cell (i := 0) rfl
        have u1 := ku.out.cell (i := 1) rfl
        have u2 := ku.out.cell (i := 2) rfl
        clear HV
        go_wp2_with fail
        go_meet
        case rel => exact ⟨rfl, rfl⟩
      | false =>
        cases g2 : q3 b1 b2 b3 c1 c2 c3 with
        | true =>
          skip
          have x0 := kx.out.cell (i := 0) rfl
          have x1 := kx.out.cell (i := 1) rfl
          have x2 := kx.out.cell (i := 2) rfl
          have y0 := ky.out.cell (i := 0) rfl
          have y1 := ky.out.cell (i := 1) rfl
          have y2 := ky.out.cell (i := 2) rfl
          have z0 := kz.out.cell (i := 0) rfl
          have z1 := kz.out.cell (i := 1) rfl
          have z2 := kz.out.cell (i := 2) rfl
          have u0 := ku.out.cell (i := 0) rfl
          have u1 := ku.out.cell (i := 1) rfl
          have u2 := ku.out.cell (i := 2) rfl
          clear HV
          go_wp2_with fail
          go_meet
          case rel => exact ⟨rfl, rfl⟩
        | false =>
          cases g3 : q3 c1 c2 c3 d1 d2 d3 with
          | true =>
            skip
            have x0 := kx.out.cell (i := 0) rfl
            have x1 := kx.out.cell (i := 1) rfl
            have x2 := kx.out.cell (i := 2) rfl
            have y0 := ky.out.cell (i := 0) rfl
            have y1 := ky.out.cell (i := 1) rfl
            have y2 := ky.out.cell (i := 2) rfl
            have z0 := kz.out.cell (i := 0) rfl
            have z1 := kz.out.cell (i := 1) rfl
            have z2 := kz.out.cell (i := 2) rfl
            have u0 := ku.out.cell (i := 0) rfl
            have u1 := ku.out.cell (i := 1) rfl
            have u2 := ku.out.cell (i := 2) rfl
            clear HV
            go_wp2_with fail
            go_meet
            case rel => exact ⟨rfl, rfl⟩
          | false =>
            cases g4 : q3 a1 a2 a3 d1 d2 d3 with
            | true =>
              skip
              have x0 := kx.out.cell (i := 0) rfl
              have x1 := kx.out.cell (i := 1) rfl
              have x2 := kx.out.cell (i := 2) rfl
              have y0 := ky.out.cell (i := 0) rfl
              have y1 := ky.out.cell (i := 1) rfl
              have y2 := ky.out.cell (i := 2) rfl
              have z0 := kz.out.cell (i := 0) rfl
              have z1 := kz.out.cell (i := 1) rfl
              have z2 := kz.out.cell (i := 2) rfl
              have u0 := ku.out.cell (i := 0) rfl
              have u1 := ku.out.cell (i := 1) rfl
              have u2 := ku.out.cell (i := 2) rfl
              clear HV
              go_wp2_with fail
              go_meet
              case rel => exact ⟨rfl, rfl⟩
            | false =>
              skip
              have x0 := kx.out.cell (i := 0) rfl
              have x1 := kx.out.cell (i := 1) rfl
              have x2 := kx.out.cell (i := 2) rfl
              have y0 := ky.out.cell (i := 0) rfl
              have y1 := ky.out.cell (i := 1) rfl
              have y2 := ky.out.cell (i := 2) rfl
              have z0 := kz.out.cell (i := 0) rfl
              have z1 := kz.out.cell (i := 1) rfl
              have z2 := kz.out.cell (i := 2) rfl
              have u0 := ku.out.cell (i := 0) rfl
              have u1 := ku.out.cell (i := 1) rfl
              have u2 := ku.out.cell (i := 2) rfl
              clear HV
              go_wp2_with fail
              go_meet
              case rel => exact ⟨rfl, rfl⟩
    · have j0 : (v != 0) = true := by rw [bne_iff_ne]; exact hv
      clear hv
      have x0 := kx.out.cell (i := 0) rfl
      have x1 := kx.out.cell (i := 1) rfl
      have x2 := kx.out.cell (i := 2) rfl
      have y0 := ky.out.cell (i := 0) rfl
      have y1 := ky.out.cell (i := 1) rfl
      have y2 := ky.out.cell (i := 2) rfl
      have z0 := kz.out.cell (i := 0) rfl
      have z1 := kz.out.cell (i := 1) rfl
      have z2 := kz.out.cell (i := 2) rfl
      have u0 := ku.out.cell (i := 0) rfl
      have u1 := ku.out.cell (i := 1) rfl
      have u2 := ku.out.cell (i := 2) rfl
      clear HV
      go_wp2_with fail
      go_meet
      case rel => exact ⟨rfl, rfl⟩
  case rest =>
    obtain ⟨rfl, rfl⟩ := hcut
    clear HV o0
    have x0 := kx.out.cell (i := 0) rfl
    have x1 := kx.out.cell (i := 1) rfl
    have x2 := kx.out.cell (i := 2) rfl
    have y0 := ky.out.cell (i := 0) rfl
    have y1 := ky.out.cell (i := 1) rfl
    have y2 := ky.out.cell (i := 2) rfl
    have z0 := kz.out.cell (i := 0) rfl
    have z1 := kz.out.cell (i := 1) rfl
    have z2 := kz.out.cell (i := 2) rfl
    go_wp2_with fail
    clear x0 x1 x2 y0 y1 y2 z0 z1 z2
    ((with_reducible refine (N1.out _).mono ?_); rintro e wm ⟨rfl, hbm⟩)
    replace HB := Lib.hid (HB.out.trans (hbm.mono HB.out.size))
    replace kx := Lib.hid (kx.out.keep hbm)
    replace ky := Lib.hid (ky.out.keep hbm)
    replace kz := Lib.hid (kz.out.keep hbm)
    clear hbm
    go_upto_region 6 with fail
    have hbm := below_new1 wm (.cells #[.int .i64 n1, .int .i64 n2, .int .i64 n3] 25)
    replace HB := Lib.hid (HB.out.trans (hbm.mono HB.out.size))
    replace kx := Lib.hid (kx.out.keep hbm)
    replace ky := Lib.hid (ky.out.keep hbm)
    replace kz := Lib.hid (kz.out.keep hbm)
    have km := Lib.hid (Lok.new wm 25 #[.int .i64 n1, .int .i64 n2, .int .i64 n3])
    clear hbm
    generalize wm.alloc (.cells #[.int .i64 n1, .int .i64 n2, .int .i64 n3] 25) = Vm at *
    generalize wm.heap.size = gm at *
    have x0 := kx.out.cell (i := 0) rfl
    have x1 := kx.out.cell (i := 1) rfl
    have x2 := kx.out.cell (i := 2) rfl
    have y0 := ky.out.cell (i := 0) rfl
    have y1 := ky.out.cell (i := 1) rfl
    have y2 := ky.out.cell (i := 2) rfl
    have z0 := kz.out.cell (i := 0) rfl
    have z1 := kz.out.cell (i := 1) rfl
    have z2 := kz.out.cell (i := 2) rfl
    go_wp2_with fail
    clear x0 x1 x2 y0 y1 y2 z0 z1 z2
    (((with_reducible refine (F1.out _).mono ?_); rintro e w3 ⟨rfl, hb3⟩); replace HB := Lib.hid (HB.out.trans (hb3.mono HB.out.size)); replace kx := Lib.hid (kx.out.keep hb3); replace ky := Lib.hid (ky.out.keep hb3); replace kz := Lib.hid (kz.out.keep hb3); replace km := Lib.hid (km.out.keep hb3); clear hb3)
    clear N1 F1
    have m0 := km.out.cell (i := 0) rfl
    have m1 := km.out.cell (i := 1) rfl
    have m2 := km.out.cell (i := 2) rfl
    go_upto_region 10 with fail
    clear m0 m1 m2
    have hbv := below_new1 w3 (.cells #[.int .i64 n1, .int .i64 n2, .int .i64 n3] 3)
    have zv : (w3.alloc (.cells #[.int .i64 n1, .int .i64 n2, .int .i64 n3] 3)).heap.size = w3.heap.size + 1 := by simp
    replace HB := Lib.hid (HB.out.trans (hbv.mono HB.out.size))
    have kv := Lib.hid (Lok.new w3 3 #[.int .i64 n1, .int .i64 n2, .int .i64 n3])
    clear hbv
    generalize w3.alloc (.cells #[.int .i64 n1, .int .i64 n2, .int .i64 n3] 3) = Vv at *
    clear zv
    generalize w3.heap.size = gv at *
    have m1 : decide ((m : Int) < 0) = false := decide_eq_false (by omega)
    have m2 : decide (2 < (m : Int)) = false := decide_eq_false (by omega)
    have j0 : (0 : Int) ≤ (m : Int) := by omega
    have j1 : (m : Int) < 3 := by omega
    have j2 : ((m : Int)).toNat = m := by omega
    have HM := Lib.hid hm
    have MX := Lib.hid (fun k (hk : k < 3) => hmost k hk)
    have c9 := kv.out.cell (pt_at n1 n2 n3 hm)
    obtain ⟨X, hX⟩ : ∃ X, pt n1 n2 n3 m = X := ⟨_, rfl⟩
    rw [hX] at c9 hY
    have HX := Lib.hid hX
    clear hX
    have y0 : decide (Y ≤ 0) = false := decide_eq_false (by omega)
    clear hm hmost
    have SG : Hid (sd = 1 ∨ sd = -1) := Lib.hid hsd
    clear hsd
    go_cut [140] from 118 to 140 (fun c wx => c = .bool false ∧ Vv = wx)
    case first =>
      rcases SG.out with hs | hs
      · have s1 : (sd != 1) = false := by rw [hs]; rfl
        clear hs
        go_wp2_with fail
        go_meet
        case rel => exact ⟨rfl, rfl⟩
      · have s1 : (sd != 1) = true := by rw [hs]; rfl
        have s2 : (sd != -1) = false := by rw [hs]; rfl
        clear hs
        go_wp2_with fail
        go_meet
        case rel => exact ⟨rfl, rfl⟩
    case rest =>
      obtain ⟨rfl, rfl⟩ := hcut
      clear SG c9 m1 m2 y0
      go_wp2_with fail
      go_loopw [19] (fun x wr => ∃ k : Nat, x = .int .i64 k ∧ k ≤ 3 ∧ Below Vv.heap.size Vv wr) (fun x _ => 3 - (intOf x).toNat)
      case atStart => exact ⟨0, rfl, Nat.zero_le _, Below.refl _ _⟩
      case round =>
        obtain ⟨k, rfl, hk, hB⟩ := hrel
        have B := Lib.hid hB
        have kq := Lib.hid (kv.out.keep hB)
        clear hB
        by_cases hlt : k < 3
        · have c0 := kq.out.cell (pt_at n1 n2 n3 hlt)
          have c1 : wr.cell? ⟨gv, m, none⟩ = some (.int .i64 X) := by have := kq.out.cell (pt_at n1 n2 n3 HM.out); rw [HX.out] at this; exact this
          obtain ⟨l1, l2, l3⟩ := MX.out k hlt
          generalize pt n1 n2 n3 k = x at *
          have i0 : (0 : Int) ≤ (k : Int) := by omega
          have i1 : (k : Int) < 3 := by omega
          have i2 : ((k : Int)).toNat = k := by omega
          have d0 : ∀ d : Of (PastV wr), d.world.cell? ⟨gv, k, none⟩ = some (.int .i64 x) := fun d => keepc d.holds c0
          have d1 : ∀ d : Of (PastV wr), d.world.cell? ⟨gv, m, none⟩ = some (.int .i64 X) := fun d => keepc d.holds c1
          have ne : Nonempty (Of (PastV wr)) := ⟨⟨wr, Below.refl _ _⟩⟩
          have g1 : decide (Y < x) = false := decide_eq_false (by omega)
          have g2 : decide (Y < -x) = false := decide_eq_false (by omega)
          clear c0 c1 l1 l2
          go_wp2_with fail
          refine wp_region_class (S := PastV wr) (by kernel_rfl) (by kernel_rfl) (Below.refl _ _).drew ?_
          repeat (go_big_quiet_step (fail))
          refine wpQuiet_nil ?_
          rintro _ ⟨d, rfl⟩
          have HD := Lib.hid (B.out.trans (show Below Vv.heap.size wr d.world from (show Below wr.heap.size wr d.world from d.holds).mono B.out.size))
          clear d0 d1 ne
          go_wp2
          go_roundw
          case rel => exact ⟨k + 1, by go_num, hlt, HD.out⟩
          case measure => simp [intOf]; omega
        · obtain rfl : k = 3 := by omega
          have HB0 := HB
          replace HB := B
          go_wp2_with fail
          (((with_reducible refine (sided_any _).mono ?_); rintro e w9 ⟨rfl, hb9⟩); replace HB := Lib.hid (HB.out.trans (hb9.mono HB.out.size)); clear hb9)
          go_wp2
          go_ret
          exact ⟨rfl, HB0.out.trans (HB.out.mono HB0.out.size)⟩
end Go.Proofs.Yticjljbglimgeaa
