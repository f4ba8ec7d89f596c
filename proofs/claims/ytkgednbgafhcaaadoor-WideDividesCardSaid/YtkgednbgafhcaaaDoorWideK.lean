/-
  The law WideDivides: the walk of the sums.
-/
import Derived.Test.YtkgednbgafhcaaaDoorWideJ
namespace Go.Proofs.YtkgednbgafhcaaaDoor
open Go.RowKit

/-- What the round does to the sum. -/
theorem dv_round (R Q : Int) (qh ql : Int) (k : Nat) (hQ : Q = qh * 1000000000000000000 + ql) (hr0 : 0 ≤ R) (hr1 : R < 1000) (hk : k ≤ 1000) (q0 : -1000000 ≤ qh) (q1 : qh ≤ 1000000) (l0 : 0 ≤ ql) (l1 : ql < 1000000000000000000) :
    Rt ((R + k * Q) / 1000000000000000000) ((R + k * Q) % 1000000000000000000) ∧
    sH ((R + k * Q) / 1000000000000000000) ((R + k * Q) % 1000000000000000000) qh ql = (R + (k + 1 : Nat) * Q) / 1000000000000000000 ∧ sL ((R + k * Q) % 1000000000000000000) ql = (R + (k + 1 : Nat) * Q) % 1000000000000000000 := by
  have b := mul_bd (x := (k : Int)) (y := Q) (p := 1000) (q := 1000001000000000000000000) (by omega) (by omega) (by omega) (by omega) (by omega) (by omega)
  have e : R + ((k + 1 : Nat) : Int) * Q = (R + k * Q) + (qh * 1000000000000000000 + ql) := by
    rw [Int.natCast_add, Int.add_mul]; omega
  have s := dv_step (R + k * Q) qh ql
  rw [e]
  refine ⟨?_, s⟩
  generalize (k : Int) * Q = X at *
  unfold Rt
  omega

set_option maxHeartbeats 2000000 in
theorem law_div_near (hi lo n : Int) (w : World) (ht : Tab w) (h : Rt hi lo) (k : Dv n) (c1 : -1000000 ≤ dvH hi n) (c2 : dvH hi n ≤ 1000000) (c3 : n ≤ 1000) :
    Calls Tryd.prog 7 #[.agg #[.int .i64 hi, .int .i64 lo], .int .i64 n] w fun e w' => e = .returned (.bool true) ∧ Below w.heap.size w w' := by
  have HT := Lib.hid ht
  obtain ⟨f0, f1, f2, f3⟩ := dv_facts hi lo n h k
  have CD := Lib.hid (fun W : World => div_ok hi lo n W h k)
  have H := Lib.hid f0
  have n1 := k.1
  have HH := Lib.hid h
  obtain ⟨l0, l1, _, _⟩ := f0
  clear ht h k
  generalize dvH hi n = qh at *
  generalize dvL hi lo n = ql at *
  generalize dvR hi lo n = R at *
  obtain ⟨Q, hQ⟩ : ∃ Q : Int, Q = qh * 1000000000000000000 + ql := ⟨_, rfl⟩
  rw [← hQ] at f3
  have HQ := Lib.hid hQ
  have F3 := Lib.hid f3
  clear f3 hQ
  have p1 : decide (R < 0) = false := by simp; omega
  have p2 : decide (n ≤ R) = false := by simp; omega
  go_enter Tryd.func7, Tryd.ntmps7
  go_wp2_with fail
  (refine (CD.out _).mono ?_; rintro e w1 ⟨rfl, hb1⟩; have hB1 : Below w.heap.size w w1 := (by refine Below.trans ?_ (hb1.mono (by first | omega | (simp; done) | (simp; omega))); (repeat (first | exact Below.refl _ _ | assumption | refine Below.drew ?_ | refine below_drewN ?_ _ | refine Below.setCell ?_ (by first | omega | (simp; done) | (simp; omega)) _ | refine Below.alloc ?_ (by first | omega | (simp; done) | (simp; omega)) _))); have hsz1 : w.heap.size ≤ w1.heap.size := hB1.size)
  have a0 : w1.cell? ⟨w.heap.size, 0, none⟩ = some (.int .i64 hi) := keepc hb1 (by simp)
  have a1 : w1.cell? ⟨w.heap.size, 1, none⟩ = some (.int .i64 lo) := keepc hb1 (by simp)
  go_wp2_with fail
  (refine (is_yes _ _ _ H.out).mono ?_; rintro e w2 ⟨rfl, hb2⟩; have hB2 : Below w.heap.size w w2 := (by refine Below.trans ?_ (hb2.mono (by first | omega | (simp; done) | (simp; omega))); (repeat (first | exact Below.refl _ _ | assumption | refine Below.drew ?_ | refine below_drewN ?_ _ | refine Below.setCell ?_ (by first | omega | (simp; done) | (simp; omega)) _ | refine Below.alloc ?_ (by first | omega | (simp; done) | (simp; omega)) _))); have hsz2 : w.heap.size ≤ w2.heap.size := hB2.size; replace a0 := keepc hb2 (by first | exact a0 | exact keepa a0 | exact keepa (keepa a0) | (simp [go_sem, *]; done)); replace a1 := keepc hb2 (by first | exact a1 | exact keepa a1 | exact keepa (keepa a1) | (simp [go_sem, *]; done)))
  have b0 : w2.cell? ⟨w1.heap.size, 0, none⟩ = some (.int .i64 qh) := keepc hb2 (by simp)
  have b1 : w2.cell? ⟨w1.heap.size, 1, none⟩ = some (.int .i64 ql) := keepc hb2 (by simp)
  go_wp2_with fail
  (refine (of_any _ _ (by omega) (by omega)).mono ?_; rintro e w3 ⟨rfl, hb3⟩; have hB3 : Below w.heap.size w w3 := (by refine Below.trans ?_ (hb3.mono (by first | omega | (simp; done) | (simp; omega))); (repeat (first | exact Below.refl _ _ | assumption | refine Below.drew ?_ | refine below_drewN ?_ _ | refine Below.setCell ?_ (by first | omega | (simp; done) | (simp; omega)) _ | refine Below.alloc ?_ (by first | omega | (simp; done) | (simp; omega)) _))); have hsz3 : w.heap.size ≤ w3.heap.size := hB3.size; replace a0 := keepc hb3 (by first | exact a0 | exact keepa a0 | exact keepa (keepa a0) | (simp [go_sem, *]; done)); replace a1 := keepc hb3 (by first | exact a1 | exact keepa a1 | exact keepa (keepa a1) | (simp [go_sem, *]; done)); replace b0 := keepc hb3 (by first | exact b0 | exact keepa b0 | exact keepa (keepa b0) | (simp [go_sem, *]; done)); replace b1 := keepc hb3 (by first | exact b1 | exact keepa b1 | exact keepa (keepa b1) | (simp [go_sem, *]; done)))
  go_wp2_with fail
  generalize hV : w3.alloc (.cells #[.int .i64 (R / 1000000000000000000), .int .i64 (R % 1000000000000000000)] 24) = V
  have B0 : Below w.heap.size w V := by rw [← hV]; (repeat (first | exact Below.refl _ _ | assumption | refine Below.drew ?_ | refine below_drewN ?_ _ | refine Below.setCell ?_ (by first | omega | (simp; done) | (simp; omega)) _ | refine Below.alloc ?_ (by first | omega | (simp; done) | (simp; omega)) _))
  replace a0 : V.cell? ⟨w.heap.size, 0, none⟩ = some (.int .i64 hi) := by rw [← hV]; exact keepa a0
  replace a1 : V.cell? ⟨w.heap.size, 1, none⟩ = some (.int .i64 lo) := by rw [← hV]; exact keepa a1
  replace b0 : V.cell? ⟨w1.heap.size, 0, none⟩ = some (.int .i64 qh) := by rw [← hV]; exact keepa b0
  replace b1 : V.cell? ⟨w1.heap.size, 1, none⟩ = some (.int .i64 ql) := by rw [← hV]; exact keepa b1
  have x0 : V.cell? ⟨w3.heap.size, 0, none⟩ = some (.int .i64 ((R + (0 : Nat) * Q) / 1000000000000000000)) := by rw [← hV]; simp
  have x1 : V.cell? ⟨w3.heap.size, 1, none⟩ = some (.int .i64 ((R + (0 : Nat) * Q) % 1000000000000000000)) := by rw [← hV]; simp
  have x2 : ∀ o, V.frozen? ⟨w3.heap.size, o, none⟩ = false := fun o => by rw [← hV]; simp
  have g1 : w.heap.size < w3.heap.size := by have := hb1.size; have := hb2.size; have := hb3.size; simp at *; omega
  have g2 : w1.heap.size < w3.heap.size := by have := hb2.size; have := hb3.size; simp at *; omega
  generalize w3.heap.size = G at *
  generalize w1.heap.size = D at *
  clear hV hB1 hB2 hB3 hb1 hb2 hb3 hsz1 hsz2 hsz3
  go_loopw [9] (fun i wv => ∃ k : Nat, (k : Int) ≤ n ∧ i = .int .i64 k ∧ Below w.heap.size w wv ∧ wv.cell? ⟨w.heap.size, 0, none⟩ = some (.int .i64 hi) ∧ wv.cell? ⟨w.heap.size, 1, none⟩ = some (.int .i64 lo) ∧
      wv.cell? ⟨D, 0, none⟩ = some (.int .i64 qh) ∧ wv.cell? ⟨D, 1, none⟩ = some (.int .i64 ql) ∧
      wv.cell? ⟨G, 0, none⟩ = some (.int .i64 ((R + k * Q) / 1000000000000000000)) ∧ wv.cell? ⟨G, 1, none⟩ = some (.int .i64 ((R + k * Q) % 1000000000000000000)) ∧ (∀ o, wv.frozen? ⟨G, o, none⟩ = false)) (fun i _ => (n - intOf i).toNat)
  case atStart => exact ⟨0, by omega, rfl, B0, a0, a1, b0, b1, x0, x1, x2⟩
  case round =>
    clear a0 a1 b0 b1 x0 x1 x2 B0
    obtain ⟨k, hk, rfl, hB, a0, a1, b0, b1, x0, x1, x2⟩ := hrel
    have HB := Lib.hid hB
    have dv := dv_round R Q qh ql k HQ.out f1 (by omega) (by omega) c1 c2 l0 l1
    by_cases hlt : (k : Int) < n
    · have dv1 := (dv_round R Q qh ql (k + 1) HQ.out f1 (by omega) (by omega) c1 c2 l0 l1).1
      rw [← dv.2.1, ← dv.2.2] at dv1
      have DV1 := Lib.hid dv1
      have DV := Lib.hid dv
      clear dv dv1 hB
      generalize (R + k * Q) / 1000000000000000000 = xh at *
      generalize (R + k * Q) % 1000000000000000000 = xl at *
      go_wp2_with fail
      refine (add2_ok _ _ xh xl qh ql _ ⟨by simp, by simp, by simp, by simp⟩ DV.out.1 H.out DV1.out).mono ?_
      rintro e w4 ⟨rfl, hb⟩
      have hB4 : Below w.heap.size w w4 := HB.out.trans ((((Below.refl _ _).alloc (Nat.le_refl _) _).trans (hb.mono (by simp))).mono HB.out.size)
      have gG : G < wr.heap.size := cell_lt x0
      have fG : ∀ o, w4.frozen? ⟨G, o, none⟩ = false := fun o => (hb.frozen (p := ⟨G, o, none⟩) (by simp; omega)).trans (by rw [World.frozen?_alloc_past _ _ _ gG]; exact x2 o)
      replace a0 := keepc hb (keepa a0)
      replace a1 := keepc hb (keepa a1)
      replace b0 := keepc hb (keepa b0)
      replace b1 := keepc hb (keepa b1)
      replace x0 := keepc hb (keepa x0)
      replace x1 := keepc hb (keepa x1)
      have hs4 : wr.heap.size < w4.heap.size := by have := hb.size; simp at this; omega
      have gG4 : G < w4.heap.size := by omega
      have HB4 := Lib.hid hB4
      clear hb x2 hB4
      go_wp2_with fail
      have nG : ¬ w.heap.size = G := by omega
      have nD : ¬ D = G := by omega
      go_roundw
      case rel =>
        refine ⟨k + 1, by omega, by go_num, ((HB4.out.setCell (by show w.heap.size ≤ G; omega) _).setCell (by show w.heap.size ≤ G; omega) _).alloc (by simp; omega) _, keepa ?_, keepa ?_, keepa ?_, keepa ?_, keepa ?_, keepa ?_, fun o => ?_⟩
        · simp [go_sem, a0]
        · simp [go_sem, a1]
        · simp [go_sem, b0]
        · simp [go_sem, b1]
        · rw [← DV.out.2.1]; simp [go_sem, x0]
        · rw [← DV.out.2.2]; simp [go_sem, x1]
        · rw [World.frozen?_alloc_past _ _ _ (by simp; omega)]; simp [go_sem, fG]
      case measure => simp [intOf]; omega
    · have ek : (k : Int) = n := by omega
      have f3 := F3.out
      have e : R + (k : Int) * Q = hi * 1000000000000000000 + lo := by rw [ek]; omega
      obtain ⟨v0, v1, _, _⟩ := HH.out
      rw [e, show (hi * 1000000000000000000 + lo) / 1000000000000000000 = hi from by omega] at x0
      rw [e, show (hi * 1000000000000000000 + lo) % 1000000000000000000 = lo from by omega] at x1
      clear ek e f3 hB dv x2
      go_wp2_with fail
      refine (widened_any _ (HT.out.below HB.out)).mono ?_
      rintro e w4 ⟨rfl, hb⟩
      have hB4 : Below w.heap.size w w4 := HB.out.trans (hb.mono HB.out.size)
      replace a0 := keepc hb a0
      replace a1 := keepc hb a1
      replace x0 := keepc hb x0
      replace x1 := keepc hb x1
      clear hb
      go_wp2_with fail
      go_ret
      exact ⟨rfl, hB4⟩

theorem law_div_any (hi lo n : Int) (w : World) (ht : Tab w) :
    Calls Tryd.prog 7 #[.agg #[.int .i64 hi, .int .i64 lo], .int .i64 n] w fun e w' => e = .returned (.bool true) ∧ Below w.heap.size w w' := by
  by_cases h : Rt hi lo
  · by_cases k : Dv n
    · by_cases c : dvH hi n < -1000000 ∨ 1000000 < dvH hi n ∨ 1000 < n
      · exact law_div_far hi lo n w ht h k c
      · exact law_div_near hi lo n w ht h k (by omega) (by omega) (by omega)
    · exact law_div_no2 hi lo n w ht h k
  · exact law_div_no1 hi lo n w ht h
end Go.Proofs.YtkgednbgafhcaaaDoor
