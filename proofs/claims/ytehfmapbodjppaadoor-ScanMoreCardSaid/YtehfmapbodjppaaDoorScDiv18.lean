/-
  The library's Div64 by 10^18 below a high part: Knuth's two digits, each guessed by the divisor's first half and set right.
-/
import Derived.Test.YtehfmapbodjppaaDoorScDiv
namespace Go.Proofs.YtehfmapbodjppaaDoor
open Go.RowKit

set_option maxHeartbeats 2000000 in
set_option maxRecDepth 100000 in
theorem div64_18 (hi lo : Nat) (w : World) (h0 : 0 < hi) (h1 : hi < 256) (hl : lo < 18446744073709551616) :
    Calls Tryd.prog 33 #[.int .u64 hi, .int .u64 lo, .int .u64 1000000000000000000] w fun e w' => e = .returned (.tuple #[.int .u64 (((hi : Int) * 18446744073709551616 + lo) / 1000000000000000000), .int .u64 (((hi : Int) * 18446744073709551616 + lo) % 1000000000000000000)]) ∧ Below w.heap.size w w' := by
  have c := Lib.hid (fun W => lead_any 1000000000000000000 4 W (by decide) (by decide) (by decide +kernel))
  have HB := Lib.hid (Below.refl w.heap.size w)
  have hi0 : ¬ (hi : Int) = 0 := by omega
  have hi1 : ¬ (1000000000000000000 : Int) ≤ hi := by omega
  have hi2 : ((hi : Int) == 0) = false := by simp; omega
  have hyA : bits .and .u64 16000000000000000000 4294967295 = 1983905792 := (and32 16000000000000000000 (by decide) (by decide)).trans (by decide)
  obtain ⟨U, hU⟩ : ∃ U : Int, bits .or .u64 ((hi : Int) * 16) ((lo : Int) / 1152921504606846976) = U := ⟨_, rfl⟩
  obtain ⟨M, hM⟩ : ∃ M : Int, IntKind.u64.wrap ((lo : Int) * 16) = M := ⟨_, rfl⟩
  have uU : U = (hi : Int) * 16 + (lo : Int) / 1152921504606846976 := by rw [← hU]; exact or64 4 _ _ (by omega) (by omega) (by omega) (by omega) (by omega) (by omega)
  have uM : M = ((lo : Int) * 16) % 18446744073709551616 := by rw [← hM, IntKind.wrap_u64]
  obtain ⟨M1, hM1⟩ : ∃ M1 : Int, M / 4294967296 = M1 := ⟨_, rfl⟩
  obtain ⟨M0, hM0⟩ : ∃ M0 : Int, bits .and .u64 M 4294967295 = M0 := ⟨_, rfl⟩
  have uM0 : M0 = M % 4294967296 := by rw [← hM0]; exact and32 M (by omega) (by omega)
  have bU : 0 ≤ U ∧ U < 16000000000000000000 := by omega
  have bM : (M ≤ M1 * 4294967296 + M0 ∧ M1 * 4294967296 + M0 ≤ M) ∧ 0 ≤ M1 ∧ M1 < 4294967296 ∧ 0 ≤ M0 ∧ M0 < 4294967296 := by omega
  have bX : ((hi : Int) * 18446744073709551616 + lo) * 16 ≤ U * 18446744073709551616 + M ∧ U * 18446744073709551616 + M ≤ ((hi : Int) * 18446744073709551616 + lo) * 16 := by omega
  clear uU uM uM0
  obtain ⟨Q, hQ⟩ : ∃ Q : Int, U.tdiv 3725290298 = Q := ⟨_, rfl⟩
  have uQ : Q = U / 3725290298 := by rw [← hQ]; exact Int.tdiv_eq_ediv_of_nonneg bU.1
  have uQ1 : 0 ≤ Q ∧ Q * 3725290298 ≤ U ∧ U < (Q + 1) * 3725290298 := by omega
  clear uQ
  obtain ⟨uQ1, uQ2, uQ3⟩ := uQ1
  have wQ : IntKind.u64.wrap Q = Q := w64 _ (by omega) (by omega)
  have wQ1 : IntKind.u64.wrap (Q * 3725290298) = Q * 3725290298 := w64 _ (by omega) (by omega)
  have wQ2 : IntKind.u64.wrap (U - Q * 3725290298) = U - Q * 3725290298 := w64 _ (by omega) (by omega)
  obtain ⟨⟨bM1, bM1'⟩, bM2, bM3, bM4, bM5⟩ := bM
  obtain ⟨bU1, bU2⟩ := bU
  obtain ⟨Z, hZ⟩ : ∃ Z : Int, ((hi : Int) * 18446744073709551616 + lo) = Z := ⟨_, rfl⟩
  rw [hZ] at bX ⊢
  go_enter Tryd.func33, Tryd.ntmps33
  go_wp2_with fail
  (((with_reducible refine (c.out _).mono ?_); rintro e w1 ⟨rfl, hb1⟩); replace HB := Lib.hid (HB.out.trans (hb1.mono HB.out.size)); clear hb1)
  go_wp2_with fail
  go_loopw [15, 16] (fun x z wr => ∃ q1 r1 : Int, x = .int .u64 q1 ∧ z = .int .u64 r1 ∧ q1 * 3725290298 + r1 = U ∧ 0 ≤ q1 ∧ q1 ≤ 18446744073709551615 ∧ 0 ≤ r1 ∧ r1 < 4294967296 ∧ U * 4294967296 + M1 < (q1 + 1) * 16000000000000000000 ∧ Below w.heap.size w wr) (fun x _ _ => (intOf x).toNat)
  case atStart => exact ⟨_, _, rfl, rfl, by omega, by omega, by omega, by omega, by omega, by omega, HB.out⟩
  case round =>
    obtain ⟨q1, r1, rfl, rfl, i11, i21, i2b1, i31, i41, i51, hB⟩ := hrel
    replace HB := Lib.hid hB
    clear hB
    obtain ⟨p1, hp⟩ : ∃ p1 : Int, q1 - 1 = p1 := ⟨_, rfl⟩
    obtain ⟨t1, ht⟩ : ∃ t1 : Int, r1 + 3725290298 = t1 := ⟨_, rfl⟩
    have z2 : IntKind.u64.wrap t1 = t1 := w64 _ (by omega) (by omega)
    by_cases k1 : 4294967296 ≤ q1
    · have d1 : ¬ q1 < 4294967296 := by omega
      have z1 : IntKind.u64.wrap p1 = p1 := w64 _ (by omega) (by omega)
      by_cases k3 : 4294967296 ≤ t1
      · have d3 : ¬ t1 < 4294967296 := by omega
        have j1 : 0 ≤ p1 ∧ p1 < 4294967296 ∧ p1 * 16000000000000000000 ≤ U * 4294967296 + M1 ∧ U * 4294967296 + M1 < (p1 + 1) * 16000000000000000000 := by omega
        obtain ⟨j11, j12, j13, j14⟩ := j1
        obtain ⟨T1, hT1⟩ : ∃ T1 : Int, IntKind.u64.wrap (U * 4294967296) = T1 := ⟨_, rfl⟩
        obtain ⟨T2, hT2⟩ : ∃ T2 : Int, IntKind.u64.wrap (T1 + M1) = T2 := ⟨_, rfl⟩
        obtain ⟨T3, hT3⟩ : ∃ T3 : Int, IntKind.u64.wrap (p1 * 16000000000000000000) = T3 := ⟨_, rfl⟩
        obtain ⟨V, hV⟩ : ∃ V : Int, IntKind.u64.wrap (T2 - T3) = V := ⟨_, rfl⟩
        have uV : (V ≤ U * 4294967296 + M1 - p1 * 16000000000000000000 ∧ U * 4294967296 + M1 - p1 * 16000000000000000000 ≤ V) ∧ 0 ≤ V ∧ V < 16000000000000000000 := by
          rw [IntKind.wrap_u64] at hT1 hT2 hT3 hV; omega
        obtain ⟨⟨uV1, uV2⟩, uV3, uV4⟩ := uV
        obtain ⟨O, hO⟩ : ∃ O : Int, V.tdiv 3725290298 = O := ⟨_, rfl⟩
        have uO : 0 ≤ O ∧ O * 3725290298 ≤ V ∧ V < (O + 1) * 3725290298 := by
          rw [Int.tdiv_eq_ediv_of_nonneg uV3] at hO; omega
        obtain ⟨uO1, uO2, uO3⟩ := uO
        have wO : IntKind.u64.wrap O = O := w64 _ (by omega) (by omega)
        have wO1 : IntKind.u64.wrap (O * 3725290298) = O * 3725290298 := w64 _ (by omega) (by omega)
        have wO2 : IntKind.u64.wrap (V - O * 3725290298) = V - O * 3725290298 := w64 _ (by omega) (by omega)
        go_wp2_with fail
        go_loopw [18, 16] (fun x z wr => ∃ q2 r2 : Int, x = .int .u64 q2 ∧ z = .int .u64 r2 ∧ q2 * 3725290298 + r2 = V ∧ 0 ≤ q2 ∧ q2 ≤ 18446744073709551615 ∧ 0 ≤ r2 ∧ r2 < 4294967296 ∧ V * 4294967296 + M0 < (q2 + 1) * 16000000000000000000 ∧ Below w.heap.size w wr) (fun x _ _ => (intOf x).toNat)
        case atStart => exact ⟨_, _, rfl, rfl, by omega, by omega, by omega, by omega, by omega, by omega, HB.out⟩
        case round =>
          obtain ⟨q2, r2, rfl, rfl, i12, i22, i2b2, i32, i42, i52, hB⟩ := hrel
          replace HB := Lib.hid hB
          clear hB
          obtain ⟨p2, hp⟩ : ∃ p2 : Int, q2 - 1 = p2 := ⟨_, rfl⟩
          obtain ⟨t2, ht⟩ : ∃ t2 : Int, r2 + 3725290298 = t2 := ⟨_, rfl⟩
          have z2 : IntKind.u64.wrap t2 = t2 := w64 _ (by omega) (by omega)
          by_cases k1 : 4294967296 ≤ q2
          · have d1 : ¬ q2 < 4294967296 := by omega
            have z1 : IntKind.u64.wrap p2 = p2 := w64 _ (by omega) (by omega)
            by_cases k3 : 4294967296 ≤ t2
            · have d3 : ¬ t2 < 4294967296 := by omega
              have j2 : 0 ≤ p2 ∧ p2 < 4294967296 ∧ p2 * 16000000000000000000 ≤ V * 4294967296 + M0 ∧ V * 4294967296 + M0 < (p2 + 1) * 16000000000000000000 := by omega
              obtain ⟨j21, j22, j23, j24⟩ := j2
              obtain ⟨S1, hS1⟩ : ∃ S1 : Int, IntKind.u64.wrap (V * 4294967296) = S1 := ⟨_, rfl⟩
              obtain ⟨S2, hS2⟩ : ∃ S2 : Int, IntKind.u64.wrap (S1 + M0) = S2 := ⟨_, rfl⟩
              obtain ⟨S3, hS3⟩ : ∃ S3 : Int, IntKind.u64.wrap (p2 * 16000000000000000000) = S3 := ⟨_, rfl⟩
              obtain ⟨W, hW⟩ : ∃ W : Int, IntKind.u64.wrap (S2 - S3) = W := ⟨_, rfl⟩
              have uW : (W ≤ V * 4294967296 + M0 - p2 * 16000000000000000000 ∧ V * 4294967296 + M0 - p2 * 16000000000000000000 ≤ W) ∧ 0 ≤ W ∧ W < 16000000000000000000 := by
                rw [IntKind.wrap_u64] at hS1 hS2 hS3 hW; omega
              obtain ⟨⟨uW1, uW2⟩, uW3, uW4⟩ := uW
              have x1 : IntKind.u64.wrap (p1 * 4294967296) = p1 * 4294967296 := w64 _ (by omega) (by omega)
              have x2 : IntKind.u64.wrap (p1 * 4294967296 + p2) = p1 * 4294967296 + p2 := w64 _ (by omega) (by omega)
              have R1 : Z / 1000000000000000000 = p1 * 4294967296 + p2 := by omega
              have R2 : Z % 1000000000000000000 = W / 16 := by omega
              go_wp2_with fail
              go_ret2
              exact ⟨rfl, HB.out⟩

            · have d3 : t2 < 4294967296 := by omega
              go_wp2_with fail
              go_roundw
              case rel => exact ⟨_, _, rfl, rfl, by omega, by omega, by omega, by omega, by omega, by omega, HB.out⟩
              case measure => simp [intOf]; omega
          · have d1 : q2 < 4294967296 := by omega
            have e1 : decide ((4294967296 : Int) ≤ q2) = false := decide_eq_false k1
            have z3 : IntKind.u64.wrap (q2 * 1983905792) = q2 * 1983905792 := w64 _ (by omega) (by omega)
            have z4 : IntKind.u64.wrap (4294967296 * r2) = 4294967296 * r2 := w64 _ (by omega) (by omega)
            have z5 : IntKind.u64.wrap (4294967296 * r2 + M0) = 4294967296 * r2 + M0 := w64 _ (by omega) (by omega)
            by_cases k2 : 4294967296 * r2 + M0 < q2 * 1983905792
            · have d2 : ¬ q2 * 1983905792 ≤ 4294967296 * r2 + M0 := by omega
              have e2 : decide (4294967296 * r2 + M0 < q2 * 1983905792) = true := decide_eq_true k2
              have z1 : IntKind.u64.wrap p2 = p2 := w64 _ (by omega) (by omega)
              by_cases k3 : 4294967296 ≤ t2
              · have d3 : ¬ t2 < 4294967296 := by omega
                have j2 : 0 ≤ p2 ∧ p2 < 4294967296 ∧ p2 * 16000000000000000000 ≤ V * 4294967296 + M0 ∧ V * 4294967296 + M0 < (p2 + 1) * 16000000000000000000 := by omega
                obtain ⟨j21, j22, j23, j24⟩ := j2
                obtain ⟨S1, hS1⟩ : ∃ S1 : Int, IntKind.u64.wrap (V * 4294967296) = S1 := ⟨_, rfl⟩
                obtain ⟨S2, hS2⟩ : ∃ S2 : Int, IntKind.u64.wrap (S1 + M0) = S2 := ⟨_, rfl⟩
                obtain ⟨S3, hS3⟩ : ∃ S3 : Int, IntKind.u64.wrap (p2 * 16000000000000000000) = S3 := ⟨_, rfl⟩
                obtain ⟨W, hW⟩ : ∃ W : Int, IntKind.u64.wrap (S2 - S3) = W := ⟨_, rfl⟩
                have uW : (W ≤ V * 4294967296 + M0 - p2 * 16000000000000000000 ∧ V * 4294967296 + M0 - p2 * 16000000000000000000 ≤ W) ∧ 0 ≤ W ∧ W < 16000000000000000000 := by
                  rw [IntKind.wrap_u64] at hS1 hS2 hS3 hW; omega
                obtain ⟨⟨uW1, uW2⟩, uW3, uW4⟩ := uW
                have x1 : IntKind.u64.wrap (p1 * 4294967296) = p1 * 4294967296 := w64 _ (by omega) (by omega)
                have x2 : IntKind.u64.wrap (p1 * 4294967296 + p2) = p1 * 4294967296 + p2 := w64 _ (by omega) (by omega)
                have R1 : Z / 1000000000000000000 = p1 * 4294967296 + p2 := by omega
                have R2 : Z % 1000000000000000000 = W / 16 := by omega
                go_wp2_with fail
                go_ret2
                exact ⟨rfl, HB.out⟩

              · have d3 : t2 < 4294967296 := by omega
                go_wp2_with fail
                go_roundw
                case rel => exact ⟨_, _, rfl, rfl, by omega, by omega, by omega, by omega, by omega, by omega, HB.out⟩
                case measure => simp [intOf]; omega
            · have d2 : q2 * 1983905792 ≤ 4294967296 * r2 + M0 := by omega
              have e2 : decide (4294967296 * r2 + M0 < q2 * 1983905792) = false := decide_eq_false k2
              have j2 : 0 ≤ q2 ∧ q2 < 4294967296 ∧ q2 * 16000000000000000000 ≤ V * 4294967296 + M0 ∧ V * 4294967296 + M0 < (q2 + 1) * 16000000000000000000 := by omega
              obtain ⟨j21, j22, j23, j24⟩ := j2
              obtain ⟨S1, hS1⟩ : ∃ S1 : Int, IntKind.u64.wrap (V * 4294967296) = S1 := ⟨_, rfl⟩
              obtain ⟨S2, hS2⟩ : ∃ S2 : Int, IntKind.u64.wrap (S1 + M0) = S2 := ⟨_, rfl⟩
              obtain ⟨S3, hS3⟩ : ∃ S3 : Int, IntKind.u64.wrap (q2 * 16000000000000000000) = S3 := ⟨_, rfl⟩
              obtain ⟨W, hW⟩ : ∃ W : Int, IntKind.u64.wrap (S2 - S3) = W := ⟨_, rfl⟩
              have uW : (W ≤ V * 4294967296 + M0 - q2 * 16000000000000000000 ∧ V * 4294967296 + M0 - q2 * 16000000000000000000 ≤ W) ∧ 0 ≤ W ∧ W < 16000000000000000000 := by
                rw [IntKind.wrap_u64] at hS1 hS2 hS3 hW; omega
              obtain ⟨⟨uW1, uW2⟩, uW3, uW4⟩ := uW
              have x1 : IntKind.u64.wrap (p1 * 4294967296) = p1 * 4294967296 := w64 _ (by omega) (by omega)
              have x2 : IntKind.u64.wrap (p1 * 4294967296 + q2) = p1 * 4294967296 + q2 := w64 _ (by omega) (by omega)
              have R1 : Z / 1000000000000000000 = p1 * 4294967296 + q2 := by omega
              have R2 : Z % 1000000000000000000 = W / 16 := by omega
              go_wp2_with fail
              go_ret2
              exact ⟨rfl, HB.out⟩

      · have d3 : t1 < 4294967296 := by omega
        go_wp2_with fail
        go_roundw
        case rel => exact ⟨_, _, rfl, rfl, by omega, by omega, by omega, by omega, by omega, by omega, HB.out⟩
        case measure => simp [intOf]; omega
    · have d1 : q1 < 4294967296 := by omega
      have e1 : decide ((4294967296 : Int) ≤ q1) = false := decide_eq_false k1
      have z3 : IntKind.u64.wrap (q1 * 1983905792) = q1 * 1983905792 := w64 _ (by omega) (by omega)
      have z4 : IntKind.u64.wrap (4294967296 * r1) = 4294967296 * r1 := w64 _ (by omega) (by omega)
      have z5 : IntKind.u64.wrap (4294967296 * r1 + M1) = 4294967296 * r1 + M1 := w64 _ (by omega) (by omega)
      by_cases k2 : 4294967296 * r1 + M1 < q1 * 1983905792
      · have d2 : ¬ q1 * 1983905792 ≤ 4294967296 * r1 + M1 := by omega
        have e2 : decide (4294967296 * r1 + M1 < q1 * 1983905792) = true := decide_eq_true k2
        have z1 : IntKind.u64.wrap p1 = p1 := w64 _ (by omega) (by omega)
        by_cases k3 : 4294967296 ≤ t1
        · have d3 : ¬ t1 < 4294967296 := by omega
          have j1 : 0 ≤ p1 ∧ p1 < 4294967296 ∧ p1 * 16000000000000000000 ≤ U * 4294967296 + M1 ∧ U * 4294967296 + M1 < (p1 + 1) * 16000000000000000000 := by omega
          obtain ⟨j11, j12, j13, j14⟩ := j1
          obtain ⟨T1, hT1⟩ : ∃ T1 : Int, IntKind.u64.wrap (U * 4294967296) = T1 := ⟨_, rfl⟩
          obtain ⟨T2, hT2⟩ : ∃ T2 : Int, IntKind.u64.wrap (T1 + M1) = T2 := ⟨_, rfl⟩
          obtain ⟨T3, hT3⟩ : ∃ T3 : Int, IntKind.u64.wrap (p1 * 16000000000000000000) = T3 := ⟨_, rfl⟩
          obtain ⟨V, hV⟩ : ∃ V : Int, IntKind.u64.wrap (T2 - T3) = V := ⟨_, rfl⟩
          have uV : (V ≤ U * 4294967296 + M1 - p1 * 16000000000000000000 ∧ U * 4294967296 + M1 - p1 * 16000000000000000000 ≤ V) ∧ 0 ≤ V ∧ V < 16000000000000000000 := by
            rw [IntKind.wrap_u64] at hT1 hT2 hT3 hV; omega
          obtain ⟨⟨uV1, uV2⟩, uV3, uV4⟩ := uV
          obtain ⟨O, hO⟩ : ∃ O : Int, V.tdiv 3725290298 = O := ⟨_, rfl⟩
          have uO : 0 ≤ O ∧ O * 3725290298 ≤ V ∧ V < (O + 1) * 3725290298 := by
            rw [Int.tdiv_eq_ediv_of_nonneg uV3] at hO; omega
          obtain ⟨uO1, uO2, uO3⟩ := uO
          have wO : IntKind.u64.wrap O = O := w64 _ (by omega) (by omega)
          have wO1 : IntKind.u64.wrap (O * 3725290298) = O * 3725290298 := w64 _ (by omega) (by omega)
          have wO2 : IntKind.u64.wrap (V - O * 3725290298) = V - O * 3725290298 := w64 _ (by omega) (by omega)
          go_wp2_with fail
          go_loopw [18, 16] (fun x z wr => ∃ q2 r2 : Int, x = .int .u64 q2 ∧ z = .int .u64 r2 ∧ q2 * 3725290298 + r2 = V ∧ 0 ≤ q2 ∧ q2 ≤ 18446744073709551615 ∧ 0 ≤ r2 ∧ r2 < 4294967296 ∧ V * 4294967296 + M0 < (q2 + 1) * 16000000000000000000 ∧ Below w.heap.size w wr) (fun x _ _ => (intOf x).toNat)
          case atStart => exact ⟨_, _, rfl, rfl, by omega, by omega, by omega, by omega, by omega, by omega, HB.out⟩
          case round =>
            obtain ⟨q2, r2, rfl, rfl, i12, i22, i2b2, i32, i42, i52, hB⟩ := hrel
            replace HB := Lib.hid hB
            clear hB
            obtain ⟨p2, hp⟩ : ∃ p2 : Int, q2 - 1 = p2 := ⟨_, rfl⟩
            obtain ⟨t2, ht⟩ : ∃ t2 : Int, r2 + 3725290298 = t2 := ⟨_, rfl⟩
            have z2 : IntKind.u64.wrap t2 = t2 := w64 _ (by omega) (by omega)
            by_cases k1 : 4294967296 ≤ q2
            · have d1 : ¬ q2 < 4294967296 := by omega
              have z1 : IntKind.u64.wrap p2 = p2 := w64 _ (by omega) (by omega)
              by_cases k3 : 4294967296 ≤ t2
              · have d3 : ¬ t2 < 4294967296 := by omega
                have j2 : 0 ≤ p2 ∧ p2 < 4294967296 ∧ p2 * 16000000000000000000 ≤ V * 4294967296 + M0 ∧ V * 4294967296 + M0 < (p2 + 1) * 16000000000000000000 := by omega
                obtain ⟨j21, j22, j23, j24⟩ := j2
                obtain ⟨S1, hS1⟩ : ∃ S1 : Int, IntKind.u64.wrap (V * 4294967296) = S1 := ⟨_, rfl⟩
                obtain ⟨S2, hS2⟩ : ∃ S2 : Int, IntKind.u64.wrap (S1 + M0) = S2 := ⟨_, rfl⟩
                obtain ⟨S3, hS3⟩ : ∃ S3 : Int, IntKind.u64.wrap (p2 * 16000000000000000000) = S3 := ⟨_, rfl⟩
                obtain ⟨W, hW⟩ : ∃ W : Int, IntKind.u64.wrap (S2 - S3) = W := ⟨_, rfl⟩
                have uW : (W ≤ V * 4294967296 + M0 - p2 * 16000000000000000000 ∧ V * 4294967296 + M0 - p2 * 16000000000000000000 ≤ W) ∧ 0 ≤ W ∧ W < 16000000000000000000 := by
                  rw [IntKind.wrap_u64] at hS1 hS2 hS3 hW; omega
                obtain ⟨⟨uW1, uW2⟩, uW3, uW4⟩ := uW
                have x1 : IntKind.u64.wrap (p1 * 4294967296) = p1 * 4294967296 := w64 _ (by omega) (by omega)
                have x2 : IntKind.u64.wrap (p1 * 4294967296 + p2) = p1 * 4294967296 + p2 := w64 _ (by omega) (by omega)
                have R1 : Z / 1000000000000000000 = p1 * 4294967296 + p2 := by omega
                have R2 : Z % 1000000000000000000 = W / 16 := by omega
                go_wp2_with fail
                go_ret2
                exact ⟨rfl, HB.out⟩

              · have d3 : t2 < 4294967296 := by omega
                go_wp2_with fail
                go_roundw
                case rel => exact ⟨_, _, rfl, rfl, by omega, by omega, by omega, by omega, by omega, by omega, HB.out⟩
                case measure => simp [intOf]; omega
            · have d1 : q2 < 4294967296 := by omega
              have e1 : decide ((4294967296 : Int) ≤ q2) = false := decide_eq_false k1
              have z3 : IntKind.u64.wrap (q2 * 1983905792) = q2 * 1983905792 := w64 _ (by omega) (by omega)
              have z4 : IntKind.u64.wrap (4294967296 * r2) = 4294967296 * r2 := w64 _ (by omega) (by omega)
              have z5 : IntKind.u64.wrap (4294967296 * r2 + M0) = 4294967296 * r2 + M0 := w64 _ (by omega) (by omega)
              by_cases k2 : 4294967296 * r2 + M0 < q2 * 1983905792
              · have d2 : ¬ q2 * 1983905792 ≤ 4294967296 * r2 + M0 := by omega
                have e2 : decide (4294967296 * r2 + M0 < q2 * 1983905792) = true := decide_eq_true k2
                have z1 : IntKind.u64.wrap p2 = p2 := w64 _ (by omega) (by omega)
                by_cases k3 : 4294967296 ≤ t2
                · have d3 : ¬ t2 < 4294967296 := by omega
                  have j2 : 0 ≤ p2 ∧ p2 < 4294967296 ∧ p2 * 16000000000000000000 ≤ V * 4294967296 + M0 ∧ V * 4294967296 + M0 < (p2 + 1) * 16000000000000000000 := by omega
                  obtain ⟨j21, j22, j23, j24⟩ := j2
                  obtain ⟨S1, hS1⟩ : ∃ S1 : Int, IntKind.u64.wrap (V * 4294967296) = S1 := ⟨_, rfl⟩
                  obtain ⟨S2, hS2⟩ : ∃ S2 : Int, IntKind.u64.wrap (S1 + M0) = S2 := ⟨_, rfl⟩
                  obtain ⟨S3, hS3⟩ : ∃ S3 : Int, IntKind.u64.wrap (p2 * 16000000000000000000) = S3 := ⟨_, rfl⟩
                  obtain ⟨W, hW⟩ : ∃ W : Int, IntKind.u64.wrap (S2 - S3) = W := ⟨_, rfl⟩
                  have uW : (W ≤ V * 4294967296 + M0 - p2 * 16000000000000000000 ∧ V * 4294967296 + M0 - p2 * 16000000000000000000 ≤ W) ∧ 0 ≤ W ∧ W < 16000000000000000000 := by
                    rw [IntKind.wrap_u64] at hS1 hS2 hS3 hW; omega
                  obtain ⟨⟨uW1, uW2⟩, uW3, uW4⟩ := uW
                  have x1 : IntKind.u64.wrap (p1 * 4294967296) = p1 * 4294967296 := w64 _ (by omega) (by omega)
                  have x2 : IntKind.u64.wrap (p1 * 4294967296 + p2) = p1 * 4294967296 + p2 := w64 _ (by omega) (by omega)
                  have R1 : Z / 1000000000000000000 = p1 * 4294967296 + p2 := by omega
                  have R2 : Z % 1000000000000000000 = W / 16 := by omega
                  go_wp2_with fail
                  go_ret2
                  exact ⟨rfl, HB.out⟩

                · have d3 : t2 < 4294967296 := by omega
                  go_wp2_with fail
                  go_roundw
                  case rel => exact ⟨_, _, rfl, rfl, by omega, by omega, by omega, by omega, by omega, by omega, HB.out⟩
                  case measure => simp [intOf]; omega
              · have d2 : q2 * 1983905792 ≤ 4294967296 * r2 + M0 := by omega
                have e2 : decide (4294967296 * r2 + M0 < q2 * 1983905792) = false := decide_eq_false k2
                have j2 : 0 ≤ q2 ∧ q2 < 4294967296 ∧ q2 * 16000000000000000000 ≤ V * 4294967296 + M0 ∧ V * 4294967296 + M0 < (q2 + 1) * 16000000000000000000 := by omega
                obtain ⟨j21, j22, j23, j24⟩ := j2
                obtain ⟨S1, hS1⟩ : ∃ S1 : Int, IntKind.u64.wrap (V * 4294967296) = S1 := ⟨_, rfl⟩
                obtain ⟨S2, hS2⟩ : ∃ S2 : Int, IntKind.u64.wrap (S1 + M0) = S2 := ⟨_, rfl⟩
                obtain ⟨S3, hS3⟩ : ∃ S3 : Int, IntKind.u64.wrap (q2 * 16000000000000000000) = S3 := ⟨_, rfl⟩
                obtain ⟨W, hW⟩ : ∃ W : Int, IntKind.u64.wrap (S2 - S3) = W := ⟨_, rfl⟩
                have uW : (W ≤ V * 4294967296 + M0 - q2 * 16000000000000000000 ∧ V * 4294967296 + M0 - q2 * 16000000000000000000 ≤ W) ∧ 0 ≤ W ∧ W < 16000000000000000000 := by
                  rw [IntKind.wrap_u64] at hS1 hS2 hS3 hW; omega
                obtain ⟨⟨uW1, uW2⟩, uW3, uW4⟩ := uW
                have x1 : IntKind.u64.wrap (p1 * 4294967296) = p1 * 4294967296 := w64 _ (by omega) (by omega)
                have x2 : IntKind.u64.wrap (p1 * 4294967296 + q2) = p1 * 4294967296 + q2 := w64 _ (by omega) (by omega)
                have R1 : Z / 1000000000000000000 = p1 * 4294967296 + q2 := by omega
                have R2 : Z % 1000000000000000000 = W / 16 := by omega
                go_wp2_with fail
                go_ret2
                exact ⟨rfl, HB.out⟩

        · have d3 : t1 < 4294967296 := by omega
          go_wp2_with fail
          go_roundw
          case rel => exact ⟨_, _, rfl, rfl, by omega, by omega, by omega, by omega, by omega, by omega, HB.out⟩
          case measure => simp [intOf]; omega
      · have d2 : q1 * 1983905792 ≤ 4294967296 * r1 + M1 := by omega
        have e2 : decide (4294967296 * r1 + M1 < q1 * 1983905792) = false := decide_eq_false k2
        have j1 : 0 ≤ q1 ∧ q1 < 4294967296 ∧ q1 * 16000000000000000000 ≤ U * 4294967296 + M1 ∧ U * 4294967296 + M1 < (q1 + 1) * 16000000000000000000 := by omega
        obtain ⟨j11, j12, j13, j14⟩ := j1
        obtain ⟨T1, hT1⟩ : ∃ T1 : Int, IntKind.u64.wrap (U * 4294967296) = T1 := ⟨_, rfl⟩
        obtain ⟨T2, hT2⟩ : ∃ T2 : Int, IntKind.u64.wrap (T1 + M1) = T2 := ⟨_, rfl⟩
        obtain ⟨T3, hT3⟩ : ∃ T3 : Int, IntKind.u64.wrap (q1 * 16000000000000000000) = T3 := ⟨_, rfl⟩
        obtain ⟨V, hV⟩ : ∃ V : Int, IntKind.u64.wrap (T2 - T3) = V := ⟨_, rfl⟩
        have uV : (V ≤ U * 4294967296 + M1 - q1 * 16000000000000000000 ∧ U * 4294967296 + M1 - q1 * 16000000000000000000 ≤ V) ∧ 0 ≤ V ∧ V < 16000000000000000000 := by
          rw [IntKind.wrap_u64] at hT1 hT2 hT3 hV; omega
        obtain ⟨⟨uV1, uV2⟩, uV3, uV4⟩ := uV
        obtain ⟨O, hO⟩ : ∃ O : Int, V.tdiv 3725290298 = O := ⟨_, rfl⟩
        have uO : 0 ≤ O ∧ O * 3725290298 ≤ V ∧ V < (O + 1) * 3725290298 := by
          rw [Int.tdiv_eq_ediv_of_nonneg uV3] at hO; omega
        obtain ⟨uO1, uO2, uO3⟩ := uO
        have wO : IntKind.u64.wrap O = O := w64 _ (by omega) (by omega)
        have wO1 : IntKind.u64.wrap (O * 3725290298) = O * 3725290298 := w64 _ (by omega) (by omega)
        have wO2 : IntKind.u64.wrap (V - O * 3725290298) = V - O * 3725290298 := w64 _ (by omega) (by omega)
        go_wp2_with fail
        go_loopw [18, 16] (fun x z wr => ∃ q2 r2 : Int, x = .int .u64 q2 ∧ z = .int .u64 r2 ∧ q2 * 3725290298 + r2 = V ∧ 0 ≤ q2 ∧ q2 ≤ 18446744073709551615 ∧ 0 ≤ r2 ∧ r2 < 4294967296 ∧ V * 4294967296 + M0 < (q2 + 1) * 16000000000000000000 ∧ Below w.heap.size w wr) (fun x _ _ => (intOf x).toNat)
        case atStart => exact ⟨_, _, rfl, rfl, by omega, by omega, by omega, by omega, by omega, by omega, HB.out⟩
        case round =>
          obtain ⟨q2, r2, rfl, rfl, i12, i22, i2b2, i32, i42, i52, hB⟩ := hrel
          replace HB := Lib.hid hB
          clear hB
          obtain ⟨p2, hp⟩ : ∃ p2 : Int, q2 - 1 = p2 := ⟨_, rfl⟩
          obtain ⟨t2, ht⟩ : ∃ t2 : Int, r2 + 3725290298 = t2 := ⟨_, rfl⟩
          have z2 : IntKind.u64.wrap t2 = t2 := w64 _ (by omega) (by omega)
          by_cases k1 : 4294967296 ≤ q2
          · have d1 : ¬ q2 < 4294967296 := by omega
            have z1 : IntKind.u64.wrap p2 = p2 := w64 _ (by omega) (by omega)
            by_cases k3 : 4294967296 ≤ t2
            · have d3 : ¬ t2 < 4294967296 := by omega
              have j2 : 0 ≤ p2 ∧ p2 < 4294967296 ∧ p2 * 16000000000000000000 ≤ V * 4294967296 + M0 ∧ V * 4294967296 + M0 < (p2 + 1) * 16000000000000000000 := by omega
              obtain ⟨j21, j22, j23, j24⟩ := j2
              obtain ⟨S1, hS1⟩ : ∃ S1 : Int, IntKind.u64.wrap (V * 4294967296) = S1 := ⟨_, rfl⟩
              obtain ⟨S2, hS2⟩ : ∃ S2 : Int, IntKind.u64.wrap (S1 + M0) = S2 := ⟨_, rfl⟩
              obtain ⟨S3, hS3⟩ : ∃ S3 : Int, IntKind.u64.wrap (p2 * 16000000000000000000) = S3 := ⟨_, rfl⟩
              obtain ⟨W, hW⟩ : ∃ W : Int, IntKind.u64.wrap (S2 - S3) = W := ⟨_, rfl⟩
              have uW : (W ≤ V * 4294967296 + M0 - p2 * 16000000000000000000 ∧ V * 4294967296 + M0 - p2 * 16000000000000000000 ≤ W) ∧ 0 ≤ W ∧ W < 16000000000000000000 := by
                rw [IntKind.wrap_u64] at hS1 hS2 hS3 hW; omega
              obtain ⟨⟨uW1, uW2⟩, uW3, uW4⟩ := uW
              have x1 : IntKind.u64.wrap (q1 * 4294967296) = q1 * 4294967296 := w64 _ (by omega) (by omega)
              have x2 : IntKind.u64.wrap (q1 * 4294967296 + p2) = q1 * 4294967296 + p2 := w64 _ (by omega) (by omega)
              have R1 : Z / 1000000000000000000 = q1 * 4294967296 + p2 := by omega
              have R2 : Z % 1000000000000000000 = W / 16 := by omega
              go_wp2_with fail
              go_ret2
              exact ⟨rfl, HB.out⟩

            · have d3 : t2 < 4294967296 := by omega
              go_wp2_with fail
              go_roundw
              case rel => exact ⟨_, _, rfl, rfl, by omega, by omega, by omega, by omega, by omega, by omega, HB.out⟩
              case measure => simp [intOf]; omega
          · have d1 : q2 < 4294967296 := by omega
            have e1 : decide ((4294967296 : Int) ≤ q2) = false := decide_eq_false k1
            have z3 : IntKind.u64.wrap (q2 * 1983905792) = q2 * 1983905792 := w64 _ (by omega) (by omega)
            have z4 : IntKind.u64.wrap (4294967296 * r2) = 4294967296 * r2 := w64 _ (by omega) (by omega)
            have z5 : IntKind.u64.wrap (4294967296 * r2 + M0) = 4294967296 * r2 + M0 := w64 _ (by omega) (by omega)
            by_cases k2 : 4294967296 * r2 + M0 < q2 * 1983905792
            · have d2 : ¬ q2 * 1983905792 ≤ 4294967296 * r2 + M0 := by omega
              have e2 : decide (4294967296 * r2 + M0 < q2 * 1983905792) = true := decide_eq_true k2
              have z1 : IntKind.u64.wrap p2 = p2 := w64 _ (by omega) (by omega)
              by_cases k3 : 4294967296 ≤ t2
              · have d3 : ¬ t2 < 4294967296 := by omega
                have j2 : 0 ≤ p2 ∧ p2 < 4294967296 ∧ p2 * 16000000000000000000 ≤ V * 4294967296 + M0 ∧ V * 4294967296 + M0 < (p2 + 1) * 16000000000000000000 := by omega
                obtain ⟨j21, j22, j23, j24⟩ := j2
                obtain ⟨S1, hS1⟩ : ∃ S1 : Int, IntKind.u64.wrap (V * 4294967296) = S1 := ⟨_, rfl⟩
                obtain ⟨S2, hS2⟩ : ∃ S2 : Int, IntKind.u64.wrap (S1 + M0) = S2 := ⟨_, rfl⟩
                obtain ⟨S3, hS3⟩ : ∃ S3 : Int, IntKind.u64.wrap (p2 * 16000000000000000000) = S3 := ⟨_, rfl⟩
                obtain ⟨W, hW⟩ : ∃ W : Int, IntKind.u64.wrap (S2 - S3) = W := ⟨_, rfl⟩
                have uW : (W ≤ V * 4294967296 + M0 - p2 * 16000000000000000000 ∧ V * 4294967296 + M0 - p2 * 16000000000000000000 ≤ W) ∧ 0 ≤ W ∧ W < 16000000000000000000 := by
                  rw [IntKind.wrap_u64] at hS1 hS2 hS3 hW; omega
                obtain ⟨⟨uW1, uW2⟩, uW3, uW4⟩ := uW
                have x1 : IntKind.u64.wrap (q1 * 4294967296) = q1 * 4294967296 := w64 _ (by omega) (by omega)
                have x2 : IntKind.u64.wrap (q1 * 4294967296 + p2) = q1 * 4294967296 + p2 := w64 _ (by omega) (by omega)
                have R1 : Z / 1000000000000000000 = q1 * 4294967296 + p2 := by omega
                have R2 : Z % 1000000000000000000 = W / 16 := by omega
                go_wp2_with fail
                go_ret2
                exact ⟨rfl, HB.out⟩

              · have d3 : t2 < 4294967296 := by omega
                go_wp2_with fail
                go_roundw
                case rel => exact ⟨_, _, rfl, rfl, by omega, by omega, by omega, by omega, by omega, by omega, HB.out⟩
                case measure => simp [intOf]; omega
            · have d2 : q2 * 1983905792 ≤ 4294967296 * r2 + M0 := by omega
              have e2 : decide (4294967296 * r2 + M0 < q2 * 1983905792) = false := decide_eq_false k2
              have j2 : 0 ≤ q2 ∧ q2 < 4294967296 ∧ q2 * 16000000000000000000 ≤ V * 4294967296 + M0 ∧ V * 4294967296 + M0 < (q2 + 1) * 16000000000000000000 := by omega
              obtain ⟨j21, j22, j23, j24⟩ := j2
              obtain ⟨S1, hS1⟩ : ∃ S1 : Int, IntKind.u64.wrap (V * 4294967296) = S1 := ⟨_, rfl⟩
              obtain ⟨S2, hS2⟩ : ∃ S2 : Int, IntKind.u64.wrap (S1 + M0) = S2 := ⟨_, rfl⟩
              obtain ⟨S3, hS3⟩ : ∃ S3 : Int, IntKind.u64.wrap (q2 * 16000000000000000000) = S3 := ⟨_, rfl⟩
              obtain ⟨W, hW⟩ : ∃ W : Int, IntKind.u64.wrap (S2 - S3) = W := ⟨_, rfl⟩
              have uW : (W ≤ V * 4294967296 + M0 - q2 * 16000000000000000000 ∧ V * 4294967296 + M0 - q2 * 16000000000000000000 ≤ W) ∧ 0 ≤ W ∧ W < 16000000000000000000 := by
                rw [IntKind.wrap_u64] at hS1 hS2 hS3 hW; omega
              obtain ⟨⟨uW1, uW2⟩, uW3, uW4⟩ := uW
              have x1 : IntKind.u64.wrap (q1 * 4294967296) = q1 * 4294967296 := w64 _ (by omega) (by omega)
              have x2 : IntKind.u64.wrap (q1 * 4294967296 + q2) = q1 * 4294967296 + q2 := w64 _ (by omega) (by omega)
              have R1 : Z / 1000000000000000000 = q1 * 4294967296 + q2 := by omega
              have R2 : Z % 1000000000000000000 = W / 16 := by omega
              go_wp2_with fail
              go_ret2
              exact ⟨rfl, HB.out⟩

end Go.Proofs.YtehfmapbodjppaaDoor
