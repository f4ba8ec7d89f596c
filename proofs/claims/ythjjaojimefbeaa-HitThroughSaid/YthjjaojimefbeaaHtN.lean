/-
  The law HitThrough, walked. (gen/HtN.py)
-/
import Derived.Test.YthjjaojimefbeaaHtK
import Derived.Deep.CutRange
namespace Go.Proofs.Ythjjaojimefbeaa
open Go.RowKit

/-- The weights and the way are within their bounds. -/
def Thr (u v z d1 d2 d3 : Int) : Prop := 0 ≤ u ∧ 0 ≤ v ∧ 0 ≤ z ∧ u ≤ 8 ∧ v ≤ 8 ∧ z ≤ 8 ∧ u + v + z = 8 ∧ -500 ≤ d1 ∧ d1 ≤ 500 ∧ -500 ≤ d2 ∧ d2 ≤ 500 ∧ -500 ≤ d3 ∧ d3 ≤ 500
def T1k (x y z : Int) : Prop := -1000 ≤ x ∧ x ≤ 1000 ∧ -1000 ≤ y ∧ y ≤ 1000 ∧ -1000 ≤ z ∧ z ≤ 1000
theorem wt_bd {u p : Int} (h : 0 ≤ u) (a : -1000 ≤ p) (b : p ≤ 1000) : -(1000 * u) ≤ u * p ∧ u * p ≤ 1000 * u := by
  have x := Int.mul_le_mul_of_nonneg_left a h
  have y := Int.mul_le_mul_of_nonneg_left b h
  omega
theorem s3_of {x y z : Int} (a : -16384 ≤ x ∧ x ≤ 16384) (b : -16384 ≤ y ∧ y ≤ 16384) (c : -16384 ≤ z ∧ z ≤ 16384) : s3 x y z = true := s3_iff.2 ⟨a, b, c⟩
theorem wrap_to {x y : Int} (h : x = y) (a : -9223372036854775808 ≤ y) (b : y ≤ 9223372036854775807) : IntKind.i64.wrap x = y := by rw [h]; exact IntWalk.i64_in _ (by omega)
set_option maxRecDepth 100000 in
set_option maxHeartbeats 16000000 in
theorem law_through (p1 p2 p3 q1 q2 q3 r1 r2 r3 u v z n1 n2 n3 : Int) (w : World) :
    Calls Try.prog 6 #[.agg #[.int .i64 p1, .int .i64 p2, .int .i64 p3, .int .i64 q1, .int .i64 q2, .int .i64 q3, .int .i64 r1, .int .i64 r2, .int .i64 r3], .int .i64 u, .int .i64 v, .int .i64 z, .agg #[.int .i64 n1, .int .i64 n2, .int .i64 n3]] w fun e' w' => e' = .returned (.bool true) ∧ Below w.heap.size w w' := by
  have HB := Lib.hid (Below.refl w.heap.size w)
  have ST := Lib.hid (fun W => struck_any W)
  go_enter Try.func6, Try.ntmps6
  go_upto_region 1 with fail
  have hbt := below_new1 w (.cells #[.int .i64 p1, .int .i64 p2, .int .i64 p3, .int .i64 q1, .int .i64 q2, .int .i64 q3, .int .i64 r1, .int .i64 r2, .int .i64 r3] 24)
  have zt : (w.alloc (.cells #[.int .i64 p1, .int .i64 p2, .int .i64 p3, .int .i64 q1, .int .i64 q2, .int .i64 q3, .int .i64 r1, .int .i64 r2, .int .i64 r3] 24)).heap.size = w.heap.size + 1 := by simp
  have HB := Lib.hid hbt
  have kt := Lib.hid (Lok.new w 24 #[.int .i64 p1, .int .i64 p2, .int .i64 p3, .int .i64 q1, .int .i64 q2, .int .i64 q3, .int .i64 r1, .int .i64 r2, .int .i64 r3])
  clear hbt
  generalize w.alloc (.cells #[.int .i64 p1, .int .i64 p2, .int .i64 p3, .int .i64 q1, .int .i64 q2, .int .i64 q3, .int .i64 r1, .int .i64 r2, .int .i64 r3] 24) = Vt at *
  have hbd := below_new1 Vt (.cells #[.int .i64 n1, .int .i64 n2, .int .i64 n3] 23)
  replace kt := Lib.hid (kt.out.keep hbd)
  have zd : (Vt.alloc (.cells #[.int .i64 n1, .int .i64 n2, .int .i64 n3] 23)).heap.size = Vt.heap.size + 1 := by simp
  replace HB := Lib.hid (HB.out.trans (hbd.mono HB.out.size))
  have kd := Lib.hid (Lok.new Vt 23 #[.int .i64 n1, .int .i64 n2, .int .i64 n3])
  clear hbd
  generalize Vt.alloc (.cells #[.int .i64 n1, .int .i64 n2, .int .i64 n3] 23) = Vd at *
  rw [zt] at kd
  clear zt zd
  go_cut [82] from 23 to 82 (fun c wx => ∃ g : Bool, c = .bool g ∧ (g = false → Thr u v z n1 n2 n3) ∧ Vd = wx)
  case first =>
    clear ST
    by_cases h0 : u < 0
    · have g0 : decide (u < 0) = true := decide_eq_true h0
      have d0 := kd.out.cell (i := 0) rfl
      have d1 := kd.out.cell (i := 1) rfl
      have d2 := kd.out.cell (i := 2) rfl
      go_wp2_with fail
      go_meet
      case rel => exact ⟨_, rfl, (fun h => by cases h), rfl⟩
    · by_cases h1 : v < 0
      · have g0 : decide (u < 0) = false := decide_eq_false h0
        have g1 : decide (v < 0) = true := decide_eq_true h1
        have d0 := kd.out.cell (i := 0) rfl
        have d1 := kd.out.cell (i := 1) rfl
        have d2 := kd.out.cell (i := 2) rfl
        go_wp2_with fail
        go_meet
        case rel => exact ⟨_, rfl, (fun h => by cases h), rfl⟩
      · by_cases h2 : z < 0
        · have g0 : decide (u < 0) = false := decide_eq_false h0
          have g1 : decide (v < 0) = false := decide_eq_false h1
          have g2 : decide (z < 0) = true := decide_eq_true h2
          have d0 := kd.out.cell (i := 0) rfl
          have d1 := kd.out.cell (i := 1) rfl
          have d2 := kd.out.cell (i := 2) rfl
          go_wp2_with fail
          go_meet
          case rel => exact ⟨_, rfl, (fun h => by cases h), rfl⟩
        · by_cases h3 : 8 < u
          · have g0 : decide (u < 0) = false := decide_eq_false h0
            have g1 : decide (v < 0) = false := decide_eq_false h1
            have g2 : decide (z < 0) = false := decide_eq_false h2
            have g3 : decide (8 < u) = true := decide_eq_true h3
            have d0 := kd.out.cell (i := 0) rfl
            have d1 := kd.out.cell (i := 1) rfl
            have d2 := kd.out.cell (i := 2) rfl
            go_wp2_with fail
            go_meet
            case rel => exact ⟨_, rfl, (fun h => by cases h), rfl⟩
          · by_cases h4 : 8 < v
            · have g0 : decide (u < 0) = false := decide_eq_false h0
              have g1 : decide (v < 0) = false := decide_eq_false h1
              have g2 : decide (z < 0) = false := decide_eq_false h2
              have g3 : decide (8 < u) = false := decide_eq_false h3
              have g4 : decide (8 < v) = true := decide_eq_true h4
              have d0 := kd.out.cell (i := 0) rfl
              have d1 := kd.out.cell (i := 1) rfl
              have d2 := kd.out.cell (i := 2) rfl
              go_wp2_with fail
              go_meet
              case rel => exact ⟨_, rfl, (fun h => by cases h), rfl⟩
            · by_cases h5 : 8 < z
              · have g0 : decide (u < 0) = false := decide_eq_false h0
                have g1 : decide (v < 0) = false := decide_eq_false h1
                have g2 : decide (z < 0) = false := decide_eq_false h2
                have g3 : decide (8 < u) = false := decide_eq_false h3
                have g4 : decide (8 < v) = false := decide_eq_false h4
                have g5 : decide (8 < z) = true := decide_eq_true h5
                have d0 := kd.out.cell (i := 0) rfl
                have d1 := kd.out.cell (i := 1) rfl
                have d2 := kd.out.cell (i := 2) rfl
                go_wp2_with fail
                go_meet
                case rel => exact ⟨_, rfl, (fun h => by cases h), rfl⟩
              · obtain ⟨uv, huv⟩ : ∃ x, u + v = x := ⟨_, rfl⟩
                obtain ⟨uvz, huvz⟩ : ∃ x, uv + z = x := ⟨_, rfl⟩
                have f1 : IntKind.i64.wrap (u + v) = uv := wrap_to huv (by omega) (by omega)
                have f2 : IntKind.i64.wrap (uv + z) = uvz := wrap_to huvz (by omega) (by omega)
                replace huv := Lib.hid huv
                replace huvz := Lib.hid huvz
                by_cases h6 : uvz = 8
                · by_cases h7 : n1 < -500
                  · have g0 : decide (u < 0) = false := decide_eq_false h0
                    have g1 : decide (v < 0) = false := decide_eq_false h1
                    have g2 : decide (z < 0) = false := decide_eq_false h2
                    have g3 : decide (8 < u) = false := decide_eq_false h3
                    have g4 : decide (8 < v) = false := decide_eq_false h4
                    have g5 : decide (8 < z) = false := decide_eq_false h5
                    have g6 : (uvz != 8) = false := by rw [h6]; rfl
                    have g7 : decide (n1 < -500) = true := decide_eq_true h7
                    have d0 := kd.out.cell (i := 0) rfl
                    have d1 := kd.out.cell (i := 1) rfl
                    have d2 := kd.out.cell (i := 2) rfl
                    go_wp2_with fail
                    go_meet
                    case rel => exact ⟨_, rfl, (fun h => by cases h), rfl⟩
                  · by_cases h8 : 500 < n1
                    · have g0 : decide (u < 0) = false := decide_eq_false h0
                      have g1 : decide (v < 0) = false := decide_eq_false h1
                      have g2 : decide (z < 0) = false := decide_eq_false h2
                      have g3 : decide (8 < u) = false := decide_eq_false h3
                      have g4 : decide (8 < v) = false := decide_eq_false h4
                      have g5 : decide (8 < z) = false := decide_eq_false h5
                      have g6 : (uvz != 8) = false := by rw [h6]; rfl
                      have g7 : decide (n1 < -500) = false := decide_eq_false h7
                      have g8 : decide (500 < n1) = true := decide_eq_true h8
                      have d0 := kd.out.cell (i := 0) rfl
                      have d1 := kd.out.cell (i := 1) rfl
                      have d2 := kd.out.cell (i := 2) rfl
                      go_wp2_with fail
                      go_meet
                      case rel => exact ⟨_, rfl, (fun h => by cases h), rfl⟩
                    · by_cases h9 : n2 < -500
                      · have g0 : decide (u < 0) = false := decide_eq_false h0
                        have g1 : decide (v < 0) = false := decide_eq_false h1
                        have g2 : decide (z < 0) = false := decide_eq_false h2
                        have g3 : decide (8 < u) = false := decide_eq_false h3
                        have g4 : decide (8 < v) = false := decide_eq_false h4
                        have g5 : decide (8 < z) = false := decide_eq_false h5
                        have g6 : (uvz != 8) = false := by rw [h6]; rfl
                        have g7 : decide (n1 < -500) = false := decide_eq_false h7
                        have g8 : decide (500 < n1) = false := decide_eq_false h8
                        have g9 : decide (n2 < -500) = true := decide_eq_true h9
                        have d0 := kd.out.cell (i := 0) rfl
                        have d1 := kd.out.cell (i := 1) rfl
                        have d2 := kd.out.cell (i := 2) rfl
                        go_wp2_with fail
                        go_meet
                        case rel => exact ⟨_, rfl, (fun h => by cases h), rfl⟩
                      · by_cases h10 : 500 < n2
                        · have g0 : decide (u < 0) = false := decide_eq_false h0
                          have g1 : decide (v < 0) = false := decide_eq_false h1
                          have g2 : decide (z < 0) = false := decide_eq_false h2
                          have g3 : decide (8 < u) = false := decide_eq_false h3
                          have g4 : decide (8 < v) = false := decide_eq_false h4
                          have g5 : decide (8 < z) = false := decide_eq_false h5
                          have g6 : (uvz != 8) = false := by rw [h6]; rfl
                          have g7 : decide (n1 < -500) = false := decide_eq_false h7
                          have g8 : decide (500 < n1) = false := decide_eq_false h8
                          have g9 : decide (n2 < -500) = false := decide_eq_false h9
                          have g10 : decide (500 < n2) = true := decide_eq_true h10
                          have d0 := kd.out.cell (i := 0) rfl
                          have d1 := kd.out.cell (i := 1) rfl
                          have d2 := kd.out.cell (i := 2) rfl
                          go_wp2_with fail
                          go_meet
                          case rel => exact ⟨_, rfl, (fun h => by cases h), rfl⟩
                        · by_cases h11 : n3 < -500
                          · have g0 : decide (u < 0) = false := decide_eq_false h0
                            have g1 : decide (v < 0) = false := decide_eq_false h1
                            have g2 : decide (z < 0) = false := decide_eq_false h2
                            have g3 : decide (8 < u) = false := decide_eq_false h3
                            have g4 : decide (8 < v) = false := decide_eq_false h4
                            have g5 : decide (8 < z) = false := decide_eq_false h5
                            have g6 : (uvz != 8) = false := by rw [h6]; rfl
                            have g7 : decide (n1 < -500) = false := decide_eq_false h7
                            have g8 : decide (500 < n1) = false := decide_eq_false h8
                            have g9 : decide (n2 < -500) = false := decide_eq_false h9
                            have g10 : decide (500 < n2) = false := decide_eq_false h10
                            have g11 : decide (n3 < -500) = true := decide_eq_true h11
                            have d0 := kd.out.cell (i := 0) rfl
                            have d1 := kd.out.cell (i := 1) rfl
                            have d2 := kd.out.cell (i := 2) rfl
                            go_wp2_with fail
                            go_meet
                            case rel => exact ⟨_, rfl, (fun h => by cases h), rfl⟩
                          · by_cases h12 : 500 < n3
                            · have g0 : decide (u < 0) = false := decide_eq_false h0
                              have g1 : decide (v < 0) = false := decide_eq_false h1
                              have g2 : decide (z < 0) = false := decide_eq_false h2
                              have g3 : decide (8 < u) = false := decide_eq_false h3
                              have g4 : decide (8 < v) = false := decide_eq_false h4
                              have g5 : decide (8 < z) = false := decide_eq_false h5
                              have g6 : (uvz != 8) = false := by rw [h6]; rfl
                              have g7 : decide (n1 < -500) = false := decide_eq_false h7
                              have g8 : decide (500 < n1) = false := decide_eq_false h8
                              have g9 : decide (n2 < -500) = false := decide_eq_false h9
                              have g10 : decide (500 < n2) = false := decide_eq_false h10
                              have g11 : decide (n3 < -500) = false := decide_eq_false h11
                              have g12 : decide (500 < n3) = true := decide_eq_true h12
                              have d0 := kd.out.cell (i := 0) rfl
                              have d1 := kd.out.cell (i := 1) rfl
                              have d2 := kd.out.cell (i := 2) rfl
                              go_wp2_with fail
                              go_meet
                              case rel => exact ⟨_, rfl, (fun h => by cases h), rfl⟩
                            · have g0 : decide (u < 0) = false := decide_eq_false h0
                              have g1 : decide (v < 0) = false := decide_eq_false h1
                              have g2 : decide (z < 0) = false := decide_eq_false h2
                              have g3 : decide (8 < u) = false := decide_eq_false h3
                              have g4 : decide (8 < v) = false := decide_eq_false h4
                              have g5 : decide (8 < z) = false := decide_eq_false h5
                              have g6 : (uvz != 8) = false := by rw [h6]; rfl
                              have g7 : decide (n1 < -500) = false := decide_eq_false h7
                              have g8 : decide (500 < n1) = false := decide_eq_false h8
                              have g9 : decide (n2 < -500) = false := decide_eq_false h9
                              have g10 : decide (500 < n2) = false := decide_eq_false h10
                              have g11 : decide (n3 < -500) = false := decide_eq_false h11
                              have g12 : decide (500 < n3) = false := decide_eq_false h12
                              have d0 := kd.out.cell (i := 0) rfl
                              have d1 := kd.out.cell (i := 1) rfl
                              have d2 := kd.out.cell (i := 2) rfl
                              go_wp2_with fail
                              go_meet
                              case rel => exact ⟨_, rfl, (fun _ => ⟨by omega, by omega, by omega, by omega, by omega, by omega, by have a := huv.out; have b := huvz.out; omega, by omega, by omega, by omega, by omega, by omega, by omega⟩), rfl⟩
                · have g0 : decide (u < 0) = false := decide_eq_false h0
                  have g1 : decide (v < 0) = false := decide_eq_false h1
                  have g2 : decide (z < 0) = false := decide_eq_false h2
                  have g3 : decide (8 < u) = false := decide_eq_false h3
                  have g4 : decide (8 < v) = false := decide_eq_false h4
                  have g5 : decide (8 < z) = false := decide_eq_false h5
                  have g6 : (uvz != 8) = true := by unfold bne; rw [beq_no h6]; rfl
                  have d0 := kd.out.cell (i := 0) rfl
                  have d1 := kd.out.cell (i := 1) rfl
                  have d2 := kd.out.cell (i := 2) rfl
                  go_wp2_with fail
                  go_meet
                  case rel => exact ⟨_, rfl, (fun h => by cases h), rfl⟩
  case rest =>
    obtain ⟨g, rfl, hT0, rfl⟩ := hcut
    cases g with
    | true =>
      clear hT0 kt kd
      go_wp2_with fail
      (((with_reducible refine (ST.out _).mono ?_); rintro e w1 ⟨rfl, hb1⟩); replace HB := Lib.hid (HB.out.trans (hb1.mono HB.out.size)); clear hb1)
      clear ST
      go_wp2
      go_ret
      exact ⟨rfl, HB.out⟩
    | false =>
      have HT := Lib.hid (hT0 rfl)
      have HB0 := HB
      have kt0 := kt
      have kd0 := kd
      clear hT0 HB kt kd
      go_wp2_with fail
      go_loopw [11] (fun i wr => ∃ k : Nat, i = .int .i64 k ∧ k ≤ 3 ∧ (∀ j, j < k → T1k (pt p1 q1 r1 j) (pt p2 q2 r2 j) (pt p3 q3 r3 j)) ∧ Below Vd.heap.size Vd wr) (fun i _ => 3 - (intOf i).toNat)
      case atStart => exact ⟨0, rfl, Nat.zero_le _, fun j hj => absurd hj (by omega), Below.refl _ _⟩
      case round =>
        obtain ⟨k, rfl, hk, hO0, hB⟩ := hrel
        have HO := Lib.hid hO0
        clear hO0
        have HB := Lib.hid (HB0.out.trans (hB.mono HB0.out.size))
        have kt := Lib.hid (kt0.out.keep hB)
        by_cases hlt : k < 3
        · have c0 : wr.cell? ⟨w.heap.size, k * 3, none⟩ = some (.int .i64 (pt p1 q1 r1 k)) := by
            rcases (show k = 0 ∨ k = 1 ∨ k = 2 by omega) with rfl | rfl | rfl
            · exact kt.out.cell (i := 0) rfl
            · exact kt.out.cell (i := 3) rfl
            · exact kt.out.cell (i := 6) rfl
          have c1 : wr.cell? ⟨w.heap.size, k * 3 + 1, none⟩ = some (.int .i64 (pt p2 q2 r2 k)) := by
            rcases (show k = 0 ∨ k = 1 ∨ k = 2 by omega) with rfl | rfl | rfl
            · exact kt.out.cell (i := 1) rfl
            · exact kt.out.cell (i := 4) rfl
            · exact kt.out.cell (i := 7) rfl
          have c2 : wr.cell? ⟨w.heap.size, k * 3 + 2, none⟩ = some (.int .i64 (pt p3 q3 r3 k)) := by
            rcases (show k = 0 ∨ k = 1 ∨ k = 2 by omega) with rfl | rfl | rfl
            · exact kt.out.cell (i := 2) rfl
            · exact kt.out.cell (i := 5) rfl
            · exact kt.out.cell (i := 8) rfl
          have B0 := Lib.hid hB
          have YES := Lib.hid (fun (h : T1k (pt p1 q1 r1 k) (pt p2 q2 r2 k) (pt p3 q3 r3 k)) j (hj : j < k + 1) => show T1k (pt p1 q1 r1 j) (pt p2 q2 r2 j) (pt p3 q3 r3 j) by
            by_cases e : j = k
            · rw [e]; exact h
            · exact HO.out j (by omega))
          generalize pt p1 q1 r1 k = x at *
          generalize pt p2 q2 r2 k = y at *
          generalize pt p3 q3 r3 k = o at *
          clear hB HO HT kt
          have i0 : (0 : Int) ≤ (k : Int) := by omega
          have i1 : (k : Int) < 3 := by omega
          have i2 : ((k : Int)).toNat = k := by omega
          by_cases h0 : x < -1000
          · have g0 : decide (x < -1000) = true := decide_eq_true h0
            clear YES
            go_wp2_with fail
            (((with_reducible refine (ST.out _).mono ?_); rintro e w1 ⟨rfl, hb1⟩); replace HB := Lib.hid (HB.out.trans (hb1.mono HB.out.size)); clear hb1)
            clear ST
            go_wp2
            go_ret
            exact ⟨rfl, HB.out⟩
          · by_cases h1 : 1000 < x
            · have g0 : decide (x < -1000) = false := decide_eq_false h0
              have g1 : decide (1000 < x) = true := decide_eq_true h1
              clear YES
              go_wp2_with fail
              (((with_reducible refine (ST.out _).mono ?_); rintro e w1 ⟨rfl, hb1⟩); replace HB := Lib.hid (HB.out.trans (hb1.mono HB.out.size)); clear hb1)
              clear ST
              go_wp2
              go_ret
              exact ⟨rfl, HB.out⟩
            · by_cases h2 : y < -1000
              · have g0 : decide (x < -1000) = false := decide_eq_false h0
                have g1 : decide (1000 < x) = false := decide_eq_false h1
                have g2 : decide (y < -1000) = true := decide_eq_true h2
                clear YES
                go_wp2_with fail
                (((with_reducible refine (ST.out _).mono ?_); rintro e w1 ⟨rfl, hb1⟩); replace HB := Lib.hid (HB.out.trans (hb1.mono HB.out.size)); clear hb1)
                clear ST
                go_wp2
                go_ret
                exact ⟨rfl, HB.out⟩
              · by_cases h3 : 1000 < y
                · have g0 : decide (x < -1000) = false := decide_eq_false h0
                  have g1 : decide (1000 < x) = false := decide_eq_false h1
                  have g2 : decide (y < -1000) = false := decide_eq_false h2
                  have g3 : decide (1000 < y) = true := decide_eq_true h3
                  clear YES
                  go_wp2_with fail
                  (((with_reducible refine (ST.out _).mono ?_); rintro e w1 ⟨rfl, hb1⟩); replace HB := Lib.hid (HB.out.trans (hb1.mono HB.out.size)); clear hb1)
                  clear ST
                  go_wp2
                  go_ret
                  exact ⟨rfl, HB.out⟩
                · by_cases h4 : o < -1000
                  · have g0 : decide (x < -1000) = false := decide_eq_false h0
                    have g1 : decide (1000 < x) = false := decide_eq_false h1
                    have g2 : decide (y < -1000) = false := decide_eq_false h2
                    have g3 : decide (1000 < y) = false := decide_eq_false h3
                    have g4 : decide (o < -1000) = true := decide_eq_true h4
                    clear YES
                    go_wp2_with fail
                    (((with_reducible refine (ST.out _).mono ?_); rintro e w1 ⟨rfl, hb1⟩); replace HB := Lib.hid (HB.out.trans (hb1.mono HB.out.size)); clear hb1)
                    clear ST
                    go_wp2
                    go_ret
                    exact ⟨rfl, HB.out⟩
                  · by_cases h5 : 1000 < o
                    · have g0 : decide (x < -1000) = false := decide_eq_false h0
                      have g1 : decide (1000 < x) = false := decide_eq_false h1
                      have g2 : decide (y < -1000) = false := decide_eq_false h2
                      have g3 : decide (1000 < y) = false := decide_eq_false h3
                      have g4 : decide (o < -1000) = false := decide_eq_false h4
                      have g5 : decide (1000 < o) = true := decide_eq_true h5
                      clear YES
                      go_wp2_with fail
                      (((with_reducible refine (ST.out _).mono ?_); rintro e w1 ⟨rfl, hb1⟩); replace HB := Lib.hid (HB.out.trans (hb1.mono HB.out.size)); clear hb1)
                      clear ST
                      go_wp2
                      go_ret
                      exact ⟨rfl, HB.out⟩
                    · have g0 : decide (x < -1000) = false := decide_eq_false h0
                      have g1 : decide (1000 < x) = false := decide_eq_false h1
                      have g2 : decide (y < -1000) = false := decide_eq_false h2
                      have g3 : decide (1000 < y) = false := decide_eq_false h3
                      have g4 : decide (o < -1000) = false := decide_eq_false h4
                      have g5 : decide (1000 < o) = false := decide_eq_false h5
                      have YS := Lib.hid (YES.out ⟨by omega, by omega, by omega, by omega, by omega, by omega⟩)
                      clear YES h0 h1 h2 h3 h4 h5
                      go_wp2
                      go_roundw
                      case rel => exact ⟨k + 1, by go_num, hlt, YS.out, B0.out⟩
                      case measure => simp [intOf]; omega
        · obtain rfl : k = 3 := by omega
          obtain ⟨a1, a2, a3, a4, a5, a6⟩ := show T1k p1 p2 p3 from HO.out 0 (by omega)
          obtain ⟨b1, b2, b3, b4, b5, b6⟩ := show T1k q1 q2 q3 from HO.out 1 (by omega)
          obtain ⟨c1, c2, c3, c4, c5, c6⟩ := show T1k r1 r2 r3 from HO.out 2 (by omega)
          obtain ⟨t1, t2, t3, t4, t5, t6, t7, t8, t9, t10, t11, t12, t13⟩ := HT.out
          have kd := Lib.hid (kd0.out.keep hB)
          clear hB HO HT hk hlt
          have e00 := wt_bd t1 a1 a2
          obtain ⟨m00, hm00⟩ : ∃ x, u * p1 = x := ⟨_, rfl⟩
          rw [hm00] at e00
          have e10 := wt_bd t2 b1 b2
          obtain ⟨m10, hm10⟩ : ∃ x, v * q1 = x := ⟨_, rfl⟩
          rw [hm10] at e10
          have e20 := wt_bd t3 c1 c2
          obtain ⟨m20, hm20⟩ : ∃ x, z * r1 = x := ⟨_, rfl⟩
          rw [hm20] at e20
          obtain ⟨s0, hs0⟩ : ∃ x, m00 + m10 = x := ⟨_, rfl⟩
          obtain ⟨X1, hX1⟩ : ∃ x, s0 + m20 = x := ⟨_, rfl⟩
          obtain ⟨A1, hA1⟩ : ∃ x, X1 - n1 = x := ⟨_, rfl⟩
          obtain ⟨B1, hB1⟩ : ∃ x, X1 + n1 = x := ⟨_, rfl⟩
          obtain ⟨D1, hD1⟩ : ∃ x, 3 * n1 = x := ⟨_, rfl⟩
          obtain ⟨C1, hC1⟩ : ∃ x, X1 + D1 = x := ⟨_, rfl⟩
          have e01 := wt_bd t1 a3 a4
          obtain ⟨m01, hm01⟩ : ∃ x, u * p2 = x := ⟨_, rfl⟩
          rw [hm01] at e01
          have e11 := wt_bd t2 b3 b4
          obtain ⟨m11, hm11⟩ : ∃ x, v * q2 = x := ⟨_, rfl⟩
          rw [hm11] at e11
          have e21 := wt_bd t3 c3 c4
          obtain ⟨m21, hm21⟩ : ∃ x, z * r2 = x := ⟨_, rfl⟩
          rw [hm21] at e21
          obtain ⟨s1, hs1⟩ : ∃ x, m01 + m11 = x := ⟨_, rfl⟩
          obtain ⟨X2, hX2⟩ : ∃ x, s1 + m21 = x := ⟨_, rfl⟩
          obtain ⟨A2, hA2⟩ : ∃ x, X2 - n2 = x := ⟨_, rfl⟩
          obtain ⟨B2, hB2⟩ : ∃ x, X2 + n2 = x := ⟨_, rfl⟩
          obtain ⟨D2, hD2⟩ : ∃ x, 3 * n2 = x := ⟨_, rfl⟩
          obtain ⟨C2, hC2⟩ : ∃ x, X2 + D2 = x := ⟨_, rfl⟩
          have e02 := wt_bd t1 a5 a6
          obtain ⟨m02, hm02⟩ : ∃ x, u * p3 = x := ⟨_, rfl⟩
          rw [hm02] at e02
          have e12 := wt_bd t2 b5 b6
          obtain ⟨m12, hm12⟩ : ∃ x, v * q3 = x := ⟨_, rfl⟩
          rw [hm12] at e12
          have e22 := wt_bd t3 c5 c6
          obtain ⟨m22, hm22⟩ : ∃ x, z * r3 = x := ⟨_, rfl⟩
          rw [hm22] at e22
          obtain ⟨s2, hs2⟩ : ∃ x, m02 + m12 = x := ⟨_, rfl⟩
          obtain ⟨X3, hX3⟩ : ∃ x, s2 + m22 = x := ⟨_, rfl⟩
          obtain ⟨A3, hA3⟩ : ∃ x, X3 - n3 = x := ⟨_, rfl⟩
          obtain ⟨B3, hB3⟩ : ∃ x, X3 + n3 = x := ⟨_, rfl⟩
          obtain ⟨D3, hD3⟩ : ∃ x, 3 * n3 = x := ⟨_, rfl⟩
          obtain ⟨C3, hC3⟩ : ∃ x, X3 + D3 = x := ⟨_, rfl⟩
          obtain ⟨S1, hS1⟩ : ∃ x, 8 * p1 = x := ⟨_, rfl⟩
          obtain ⟨S2, hS2⟩ : ∃ x, 8 * p2 = x := ⟨_, rfl⟩
          obtain ⟨S3, hS3⟩ : ∃ x, 8 * p3 = x := ⟨_, rfl⟩
          obtain ⟨S4, hS4⟩ : ∃ x, 8 * q1 = x := ⟨_, rfl⟩
          obtain ⟨S5, hS5⟩ : ∃ x, 8 * q2 = x := ⟨_, rfl⟩
          obtain ⟨S6, hS6⟩ : ∃ x, 8 * q3 = x := ⟨_, rfl⟩
          obtain ⟨S7, hS7⟩ : ∃ x, 8 * r1 = x := ⟨_, rfl⟩
          obtain ⟨S8, hS8⟩ : ∃ x, 8 * r2 = x := ⟨_, rfl⟩
          obtain ⟨S9, hS9⟩ : ∃ x, 8 * r3 = x := ⟨_, rfl⟩
          have zA : s3 A1 A2 A3 = true := s3_of (by omega) (by omega) (by omega)
          have zB : s3 B1 B2 B3 = true := s3_of (by omega) (by omega) (by omega)
          have zC : s3 C1 C2 C3 = true := s3_of (by omega) (by omega) (by omega)
          have zP : s3 S1 S2 S3 = true := s3_of (by omega) (by omega) (by omega)
          have zQ : s3 S4 S5 S6 = true := s3_of (by omega) (by omega) (by omega)
          have zR : s3 S7 S8 S9 = true := s3_of (by omega) (by omega) (by omega)
          have K1 := Lib.hid (fun W => side_any A1 A2 A3 S1 S2 S3 S4 S5 S6 S7 S8 S9 true (by rw [zA, zP, zQ, zR]; rfl) W)
          have K2 := Lib.hid (fun W => hit_any A1 A2 A3 B1 B2 B3 S1 S2 S3 S4 S5 S6 S7 S8 S9 true (by rw [zA, zB, zP, zQ, zR]; rfl) W)
          have K3 := Lib.hid (fun W => hit_any A1 A2 A3 C1 C2 C3 S1 S2 S3 S4 S5 S6 S7 S8 S9 true (by rw [zA, zC, zP, zQ, zR]; rfl) W)
          rw [vF_yes, show rE true = 0 from rfl] at K1
          rw [hV_yes, show rE true = 0 from rfl] at K2 K3
          have hu : u = 8 - v - z := by omega
          have qA1 : A1 = (8 - v - z) * p1 + v * q1 + z * r1 - n1 := by rw [← hA1, ← hX1, ← hs0, ← hm00, ← hm10, ← hm20, hu]
          have qB1 : B1 = (8 - v - z) * p1 + v * q1 + z * r1 + n1 := by rw [← hB1, ← hX1, ← hs0, ← hm00, ← hm10, ← hm20, hu]
          have qC1 : C1 = (8 - v - z) * p1 + v * q1 + z * r1 + 3 * n1 := by rw [← hC1, ← hD1, ← hX1, ← hs0, ← hm00, ← hm10, ← hm20, hu]
          have qA2 : A2 = (8 - v - z) * p2 + v * q2 + z * r2 - n2 := by rw [← hA2, ← hX2, ← hs1, ← hm01, ← hm11, ← hm21, hu]
          have qB2 : B2 = (8 - v - z) * p2 + v * q2 + z * r2 + n2 := by rw [← hB2, ← hX2, ← hs1, ← hm01, ← hm11, ← hm21, hu]
          have qC2 : C2 = (8 - v - z) * p2 + v * q2 + z * r2 + 3 * n2 := by rw [← hC2, ← hD2, ← hX2, ← hs1, ← hm01, ← hm11, ← hm21, hu]
          have qA3 : A3 = (8 - v - z) * p3 + v * q3 + z * r3 - n3 := by rw [← hA3, ← hX3, ← hs2, ← hm02, ← hm12, ← hm22, hu]
          have qB3 : B3 = (8 - v - z) * p3 + v * q3 + z * r3 + n3 := by rw [← hB3, ← hX3, ← hs2, ← hm02, ← hm12, ← hm22, hu]
          have qC3 : C3 = (8 - v - z) * p3 + v * q3 + z * r3 + 3 * n3 := by rw [← hC3, ← hD3, ← hX3, ← hs2, ← hm02, ← hm12, ← hm22, hu]
          have rr2 : htB A1 A2 A3 B1 B2 B3 S1 S2 S3 S4 S5 S6 S7 S8 S9 = (nd p1 p2 p3 q1 q2 q3 r1 r2 r3 n1 n2 n3 != 0) := by
            rw [qA1, qA2, qA3, qB1, qB2, qB3, ← hS1, ← hS2, ← hS3, ← hS4, ← hS5, ← hS6, ← hS7, ← hS8, ← hS9]
            exact ht_through_b p1 p2 p3 q1 q2 q3 r1 r2 r3 v z n1 n2 n3 (by omega) t2 t3
          have rr3 : htB A1 A2 A3 C1 C2 C3 S1 S2 S3 S4 S5 S6 S7 S8 S9 = (nd p1 p2 p3 q1 q2 q3 r1 r2 r3 n1 n2 n3 != 0) := by
            rw [qA1, qA2, qA3, qC1, qC2, qC3, ← hS1, ← hS2, ← hS3, ← hS4, ← hS5, ← hS6, ← hS7, ← hS8, ← hS9]
            exact ht_through_c p1 p2 p3 q1 q2 q3 r1 r2 r3 v z n1 n2 n3 (by omega) t2 t3
          have rr1 : (ordI (vo S1 S2 S3 S4 S5 S6 S7 S8 S9 A1 A2 A3) 0 != 0) = (nd p1 p2 p3 q1 q2 q3 r1 r2 r3 n1 n2 n3 != 0) := by
            rw [qA1, qA2, qA3, ← hS1, ← hS2, ← hS3, ← hS4, ← hS5, ← hS6, ← hS7, ← hS8, ← hS9]
            exact ht_through_side p1 p2 p3 q1 q2 q3 r1 r2 r3 v z n1 n2 n3
          rw [rr2] at K2
          rw [rr3] at K3
          generalize (nd p1 p2 p3 q1 q2 q3 r1 r2 r3 n1 n2 n3 != 0) = x at *
          generalize ordI (vo S1 S2 S3 S4 S5 S6 S7 S8 S9 A1 A2 A3) 0 = m at *
          clear qA1 qA2 qA3 qB1 qB2 qB3 qC1 qC2 qC3 zA zB zC zP zQ zR rr2 rr3 hu
          have f00 := wrap_to hm00 (by omega) (by omega)
          have f10 := wrap_to hm10 (by omega) (by omega)
          have f20 := wrap_to hm20 (by omega) (by omega)
          have fs0 := wrap_to hs0 (by omega) (by omega)
          have fX0 := wrap_to hX1 (by omega) (by omega)
          have fA0 := wrap_to hA1 (by omega) (by omega)
          have fB0 := wrap_to hB1 (by omega) (by omega)
          have fD0 := wrap_to hD1 (by omega) (by omega)
          have fC0 := wrap_to hC1 (by omega) (by omega)
          have f01 := wrap_to hm01 (by omega) (by omega)
          have f11 := wrap_to hm11 (by omega) (by omega)
          have f21 := wrap_to hm21 (by omega) (by omega)
          have fs1 := wrap_to hs1 (by omega) (by omega)
          have fX1 := wrap_to hX2 (by omega) (by omega)
          have fA1 := wrap_to hA2 (by omega) (by omega)
          have fB1 := wrap_to hB2 (by omega) (by omega)
          have fD1 := wrap_to hD2 (by omega) (by omega)
          have fC1 := wrap_to hC2 (by omega) (by omega)
          have f02 := wrap_to hm02 (by omega) (by omega)
          have f12 := wrap_to hm12 (by omega) (by omega)
          have f22 := wrap_to hm22 (by omega) (by omega)
          have fs2 := wrap_to hs2 (by omega) (by omega)
          have fX2 := wrap_to hX3 (by omega) (by omega)
          have fA2 := wrap_to hA3 (by omega) (by omega)
          have fB2 := wrap_to hB3 (by omega) (by omega)
          have fD2 := wrap_to hD3 (by omega) (by omega)
          have fC2 := wrap_to hC3 (by omega) (by omega)
          have fS1 := wrap_to hS1 (by omega) (by omega)
          have fS2 := wrap_to hS2 (by omega) (by omega)
          have fS3 := wrap_to hS3 (by omega) (by omega)
          have fS4 := wrap_to hS4 (by omega) (by omega)
          have fS5 := wrap_to hS5 (by omega) (by omega)
          have fS6 := wrap_to hS6 (by omega) (by omega)
          have fS7 := wrap_to hS7 (by omega) (by omega)
          have fS8 := wrap_to hS8 (by omega) (by omega)
          have fS9 := wrap_to hS9 (by omega) (by omega)
          clear hm00 hm01 hm02 hm10 hm11 hm12 hm20 hm21 hm22 e00 e01 e02 e10 e11 e12 e20 e21 e22 hs0 hs1 hs2 hX1 hX2 hX3 hA1 hA2 hA3 hB1 hB2 hB3 hD1 hD2 hD3 hC1 hC2 hC3 hS1 hS2 hS3 hS4 hS5 hS6 hS7 hS8 hS9 t1 t2 t3 t4 t5 t6 t7 t8 t9 t10 t11 t12 t13 a1 a2 a3 a4 a5 a6 b1 b2 b3 b4 b5 b6 c1 c2 c3 c4 c5 c6
          clear HB0 kt0 kd0
          have t0 := kt.out.cell (i := 0) rfl
          have t1 := kt.out.cell (i := 1) rfl
          have t2 := kt.out.cell (i := 2) rfl
          have t3 := kt.out.cell (i := 3) rfl
          have t4 := kt.out.cell (i := 4) rfl
          have t5 := kt.out.cell (i := 5) rfl
          have t6 := kt.out.cell (i := 6) rfl
          have t7 := kt.out.cell (i := 7) rfl
          have t8 := kt.out.cell (i := 8) rfl
          go_upto_region 9 with fail
          clear t0 t1 t2 t3 t4 t5 t6 t7 t8
          have hbp := below_new1 wr (.cells #[.int .i64 X1, .int .i64 X2, .int .i64 X3] 23)
          replace kt := Lib.hid (kt.out.keep hbp)
          replace kd := Lib.hid (kd.out.keep hbp)
          have zp : (wr.alloc (.cells #[.int .i64 X1, .int .i64 X2, .int .i64 X3] 23)).heap.size = wr.heap.size + 1 := by simp
          replace HB := Lib.hid (HB.out.trans (hbp.mono HB.out.size))
          have kp := Lib.hid (Lok.new wr 23 #[.int .i64 X1, .int .i64 X2, .int .i64 X3])
          clear hbp
          generalize wr.alloc (.cells #[.int .i64 X1, .int .i64 X2, .int .i64 X3] 23) = Vp at *
          clear zp
          generalize wr.heap.size = gp at *
          clear f00 f01 f02 f10 f11 f12 f20 f21 f22 fs0 fs1 fs2 fX0 fX1 fX2
          have t0 := kt.out.cell (i := 0) rfl
          have t1 := kt.out.cell (i := 1) rfl
          have t2 := kt.out.cell (i := 2) rfl
          have t3 := kt.out.cell (i := 3) rfl
          have t4 := kt.out.cell (i := 4) rfl
          have t5 := kt.out.cell (i := 5) rfl
          have t6 := kt.out.cell (i := 6) rfl
          have t7 := kt.out.cell (i := 7) rfl
          have t8 := kt.out.cell (i := 8) rfl
          go_upto_region 10 with fail
          clear t0 t1 t2 t3 t4 t5 t6 t7 t8
          have hbs := below_new1 Vp (.cells #[.int .i64 S1, .int .i64 S2, .int .i64 S3, .int .i64 S4, .int .i64 S5, .int .i64 S6, .int .i64 S7, .int .i64 S8, .int .i64 S9] 24)
          replace kt := Lib.hid (kt.out.keep hbs)
          replace kd := Lib.hid (kd.out.keep hbs)
          replace kp := Lib.hid (kp.out.keep hbs)
          have zs : (Vp.alloc (.cells #[.int .i64 S1, .int .i64 S2, .int .i64 S3, .int .i64 S4, .int .i64 S5, .int .i64 S6, .int .i64 S7, .int .i64 S8, .int .i64 S9] 24)).heap.size = Vp.heap.size + 1 := by simp
          replace HB := Lib.hid (HB.out.trans (hbs.mono HB.out.size))
          have ks := Lib.hid (Lok.new Vp 24 #[.int .i64 S1, .int .i64 S2, .int .i64 S3, .int .i64 S4, .int .i64 S5, .int .i64 S6, .int .i64 S7, .int .i64 S8, .int .i64 S9])
          clear hbs
          generalize Vp.alloc (.cells #[.int .i64 S1, .int .i64 S2, .int .i64 S3, .int .i64 S4, .int .i64 S5, .int .i64 S6, .int .i64 S7, .int .i64 S8, .int .i64 S9] 24) = Vs at *
          clear zs
          generalize Vp.heap.size = gs at *
          clear kt fS1 fS2 fS3 fS4 fS5 fS6 fS7 fS8 fS9
          have p0 := kp.out.cell (i := 0) rfl
          have p1 := kp.out.cell (i := 1) rfl
          have p2 := kp.out.cell (i := 2) rfl
          have d0 := kd.out.cell (i := 0) rfl
          have d1 := kd.out.cell (i := 1) rfl
          have d2 := kd.out.cell (i := 2) rfl
          go_upto_region 11 with fail
          clear p0 p1 p2 d0 d1 d2
          have hba := below_new1 Vs (.cells #[.int .i64 A1, .int .i64 A2, .int .i64 A3] 23)
          replace kd := Lib.hid (kd.out.keep hba)
          replace kp := Lib.hid (kp.out.keep hba)
          replace ks := Lib.hid (ks.out.keep hba)
          have za : (Vs.alloc (.cells #[.int .i64 A1, .int .i64 A2, .int .i64 A3] 23)).heap.size = Vs.heap.size + 1 := by simp
          replace HB := Lib.hid (HB.out.trans (hba.mono HB.out.size))
          have ka := Lib.hid (Lok.new Vs 23 #[.int .i64 A1, .int .i64 A2, .int .i64 A3])
          clear hba
          generalize Vs.alloc (.cells #[.int .i64 A1, .int .i64 A2, .int .i64 A3] 23) = Va at *
          clear za
          generalize Vs.heap.size = ga at *
          clear fA0 fA1 fA2
          have p0 := kp.out.cell (i := 0) rfl
          have p1 := kp.out.cell (i := 1) rfl
          have p2 := kp.out.cell (i := 2) rfl
          have d0 := kd.out.cell (i := 0) rfl
          have d1 := kd.out.cell (i := 1) rfl
          have d2 := kd.out.cell (i := 2) rfl
          go_upto_region 12 with fail
          clear p0 p1 p2 d0 d1 d2
          have hbb := below_new1 Va (.cells #[.int .i64 B1, .int .i64 B2, .int .i64 B3] 23)
          replace kd := Lib.hid (kd.out.keep hbb)
          replace kp := Lib.hid (kp.out.keep hbb)
          replace ks := Lib.hid (ks.out.keep hbb)
          replace ka := Lib.hid (ka.out.keep hbb)
          have zb : (Va.alloc (.cells #[.int .i64 B1, .int .i64 B2, .int .i64 B3] 23)).heap.size = Va.heap.size + 1 := by simp
          replace HB := Lib.hid (HB.out.trans (hbb.mono HB.out.size))
          have kb := Lib.hid (Lok.new Va 23 #[.int .i64 B1, .int .i64 B2, .int .i64 B3])
          clear hbb
          generalize Va.alloc (.cells #[.int .i64 B1, .int .i64 B2, .int .i64 B3] 23) = Vb at *
          clear zb
          generalize Va.heap.size = gb at *
          clear fB0 fB1 fB2
          have p0 := kp.out.cell (i := 0) rfl
          have p1 := kp.out.cell (i := 1) rfl
          have p2 := kp.out.cell (i := 2) rfl
          have d0 := kd.out.cell (i := 0) rfl
          have d1 := kd.out.cell (i := 1) rfl
          have d2 := kd.out.cell (i := 2) rfl
          go_upto_region 13 with fail
          clear p0 p1 p2 d0 d1 d2
          have hbc := below_new1 Vb (.cells #[.int .i64 C1, .int .i64 C2, .int .i64 C3] 23)
          replace kd := Lib.hid (kd.out.keep hbc)
          replace kp := Lib.hid (kp.out.keep hbc)
          replace ks := Lib.hid (ks.out.keep hbc)
          replace ka := Lib.hid (ka.out.keep hbc)
          replace kb := Lib.hid (kb.out.keep hbc)
          have zc : (Vb.alloc (.cells #[.int .i64 C1, .int .i64 C2, .int .i64 C3] 23)).heap.size = Vb.heap.size + 1 := by simp
          replace HB := Lib.hid (HB.out.trans (hbc.mono HB.out.size))
          have kc := Lib.hid (Lok.new Vb 23 #[.int .i64 C1, .int .i64 C2, .int .i64 C3])
          clear hbc
          generalize Vb.alloc (.cells #[.int .i64 C1, .int .i64 C2, .int .i64 C3] 23) = Vc at *
          clear zc
          generalize Vb.heap.size = gc at *
          clear fC0 fC1 fC2 fD0 fD1 fD2 kp kd
          have a0 := ka.out.cell (i := 0) rfl
          have a1 := ka.out.cell (i := 1) rfl
          have a2 := ka.out.cell (i := 2) rfl
          have s0 := ks.out.cell (i := 0) rfl
          have s1 := ks.out.cell (i := 1) rfl
          have s2 := ks.out.cell (i := 2) rfl
          have s3 := ks.out.cell (i := 3) rfl
          have s4 := ks.out.cell (i := 4) rfl
          have s5 := ks.out.cell (i := 5) rfl
          have s6 := ks.out.cell (i := 6) rfl
          have s7 := ks.out.cell (i := 7) rfl
          have s8 := ks.out.cell (i := 8) rfl
          go_wp2_with fail
          clear a0 a1 a2 s0 s1 s2 s3 s4 s5 s6 s7 s8
          (((with_reducible refine (K1.out _).mono ?_); rintro e w1 ⟨rfl, hb1⟩); replace HB := Lib.hid (HB.out.trans (hb1.mono HB.out.size)); replace ks := Lib.hid (ks.out.keep hb1); replace ka := Lib.hid (ka.out.keep hb1); replace kb := Lib.hid (kb.out.keep hb1); replace kc := Lib.hid (kc.out.keep hb1); clear hb1)
          have a0 := ka.out.cell (i := 0) rfl
          have a1 := ka.out.cell (i := 1) rfl
          have a2 := ka.out.cell (i := 2) rfl
          have b0 := kb.out.cell (i := 0) rfl
          have b1 := kb.out.cell (i := 1) rfl
          have b2 := kb.out.cell (i := 2) rfl
          have s0 := ks.out.cell (i := 0) rfl
          have s1 := ks.out.cell (i := 1) rfl
          have s2 := ks.out.cell (i := 2) rfl
          have s3 := ks.out.cell (i := 3) rfl
          have s4 := ks.out.cell (i := 4) rfl
          have s5 := ks.out.cell (i := 5) rfl
          have s6 := ks.out.cell (i := 6) rfl
          have s7 := ks.out.cell (i := 7) rfl
          have s8 := ks.out.cell (i := 8) rfl
          go_wp2_with fail
          clear a0 a1 a2 b0 b1 b2 s0 s1 s2 s3 s4 s5 s6 s7 s8
          (((with_reducible refine (K2.out _).mono ?_); rintro e w2 ⟨rfl, hb2⟩); replace HB := Lib.hid (HB.out.trans (hb2.mono HB.out.size)); replace ks := Lib.hid (ks.out.keep hb2); replace ka := Lib.hid (ka.out.keep hb2); replace kb := Lib.hid (kb.out.keep hb2); replace kc := Lib.hid (kc.out.keep hb2); clear hb2)
          have a0 := ka.out.cell (i := 0) rfl
          have a1 := ka.out.cell (i := 1) rfl
          have a2 := ka.out.cell (i := 2) rfl
          have c0 := kc.out.cell (i := 0) rfl
          have c1 := kc.out.cell (i := 1) rfl
          have c2 := kc.out.cell (i := 2) rfl
          have s0 := ks.out.cell (i := 0) rfl
          have s1 := ks.out.cell (i := 1) rfl
          have s2 := ks.out.cell (i := 2) rfl
          have s3 := ks.out.cell (i := 3) rfl
          have s4 := ks.out.cell (i := 4) rfl
          have s5 := ks.out.cell (i := 5) rfl
          have s6 := ks.out.cell (i := 6) rfl
          have s7 := ks.out.cell (i := 7) rfl
          have s8 := ks.out.cell (i := 8) rfl
          go_wp2_with fail
          clear a0 a1 a2 c0 c1 c2 s0 s1 s2 s3 s4 s5 s6 s7 s8
          (((with_reducible refine (K3.out _).mono ?_); rintro e w3 ⟨rfl, hb3⟩); replace HB := Lib.hid (HB.out.trans (hb3.mono HB.out.size)); replace ks := Lib.hid (ks.out.keep hb3); replace ka := Lib.hid (ka.out.keep hb3); replace kb := Lib.hid (kb.out.keep hb3); replace kc := Lib.hid (kc.out.keep hb3); clear hb3)
          clear K1 K2 K3 ka kb kc ks
          go_wp2_with fail
          (((with_reducible refine (ST.out _).mono ?_); rintro e w4 ⟨rfl, hb4⟩); replace HB := Lib.hid (HB.out.trans (hb4.mono HB.out.size)); clear hb4)
          clear ST
          go_wp2
          go_ret
          exact ⟨rfl, HB.out⟩
end Go.Proofs.Ythjjaojimefbeaa
