/-
  The law WideOrder: its walks.
-/
import Derived.Test.YtkgednbgafhcaaaDoorWideI
import Derived.Deep.RegionWith
import Derived.Deep.DeepCutAuto
namespace Go.Proofs.YtkgednbgafhcaaaDoor
open Go.RowKit
attribute [local go_sem ↓] Go.wp_at_zero Go.wp_at_succ

theorem aE_zero {ah al bh bl : Int} (h : aE ah al bh bl = 0) : Rt ah al ∧ Rt bh bl ∧ Rt (sH ah al bh bl) (sL al bl) ∧ aH ah al bh bl = sH ah al bh bl ∧ aL ah al bh bl = sL al bl := by
  have e1 : aH ah al bh bl = sH ah al bh bl := by unfold aH; rw [if_pos h]
  have e2 : aL ah al bh bl = sL al bl := by unfold aL; rw [if_pos h]
  unfold aE at h
  split at h
  · rename_i h1
    split at h
    · rename_i h2; exact ⟨h1.1, h1.2, h2, e1, e2⟩
    · omega
  · omega
theorem cmpI_add (ah al bh bl ch cl : Int) (h1 : aE ah al ch cl = 0) (h2 : aE bh bl ch cl = 0) : cmpI (aH ah al ch cl) (aL ah al ch cl) (aH bh bl ch cl) (aL bh bl ch cl) = cmpI ah al bh bl := by
  obtain ⟨⟨a1, a2, _, _⟩, ⟨c1, c2, _, _⟩, _, e1, e2⟩ := aE_zero h1
  obtain ⟨⟨b1, b2, _, _⟩, _, _, e3, e4⟩ := aE_zero h2
  rw [e1, e2, e3, e4]
  unfold cmpI sH sL
  split <;> split <;> (try split) <;> (try split) <;> first | rfl | omega
theorem cmpI_bd (ah al bh bl : Int) : -1 ≤ cmpI ah al bh bl ∧ cmpI ah al bh bl ≤ 1 := by
  unfold cmpI; split
  · omega
  · split <;> omega
theorem cmpI_turn (ah al bh bl : Int) : cmpI bh bl ah al = -cmpI ah al bh bl := by
  unfold cmpI
  split <;> split <;> (try split) <;> (try split) <;> first | rfl | omega

/-- The side of a number. -/
def sg (n : Int) : Int := if n = 0 then 0 else if n < 0 then -1 else 1
theorem sg_bd (n : Int) : -1 ≤ sg n ∧ sg n ≤ 1 := by unfold sg; split; omega; split <;> omega
theorem cmp_sg (V : Int) : cmpI (V / 1000000000000000000) (V % 1000000000000000000) 0 0 = sg V := by
  unfold cmpI sg
  split <;> split <;> (try split) <;> (try split) <;> first | rfl | omega
theorem sg_mul (n m : Int) : sg (n * m) = sg n * sg m := by
  rcases Int.lt_trichotomy n 0 with h | h | h <;> rcases Int.lt_trichotomy m 0 with k | k | k
  · have := Int.mul_pos_of_neg_of_neg h k
    unfold sg; rw [if_neg (by omega), if_neg (by omega), if_neg (by omega), if_pos h, if_neg (by omega), if_pos k]; rfl
  · subst k; simp [sg]
  · have := Int.mul_neg_of_neg_of_pos h k
    unfold sg; rw [if_neg (by omega), if_pos (by omega), if_neg (by omega), if_pos h, if_neg (by omega), if_neg (by omega)]; rfl
  · subst h; simp [sg]
  · subst h; simp [sg]
  · subst h; simp [sg]
  · have := Int.mul_neg_of_pos_of_neg h k
    unfold sg; rw [if_neg (by omega), if_pos (by omega), if_neg (by omega), if_neg (by omega), if_neg (by omega), if_pos k]; rfl
  · subst k; simp [sg]
  · have := Int.mul_pos h k
    unfold sg; rw [if_neg (by omega), if_neg (by omega), if_neg (by omega), if_neg (by omega), if_neg (by omega), if_neg (by omega)]; rfl
/-- How two ints' Wides stand. -/
theorem cmp_ints (n m : Int) : (n < m → cmpI (n / 1000000000000000000) (n % 1000000000000000000) (m / 1000000000000000000) (m % 1000000000000000000) < 0) ∧ (¬ n < m → 0 ≤ cmpI (n / 1000000000000000000) (n % 1000000000000000000) (m / 1000000000000000000) (m % 1000000000000000000)) := by
  constructor
  · intro h
    rw [← cmpI_lt (by omega)]; omega
  · intro h
    by_cases e : n = m
    · subst e; rw [cmpI_self]; omega
    · rw [← cmpI_gt (by omega)]; omega

instance (n : Int) : Decidable (Fac n) := by unfold Fac; infer_instance
/-- What Mul answers, as three numbers. -/
def mE (n m : Int) : Int := if Fac n ∧ Fac m then 0 else 2
def mH (n m : Int) : Int := if Fac n ∧ Fac m then n * m / 1000000000000000000 else 0
def mL (n m : Int) : Int := if Fac n ∧ Fac m then n * m % 1000000000000000000 else 0
theorem mul_any (n m : Int) (w : World) :
    Calls Tryd.prog 9 #[.int .i64 n, .int .i64 m] w fun e w' => e = .returned (.tuple #[.agg #[.int .i64 (mH n m), .int .i64 (mL n m)], .int .i64 (mE n m)]) ∧ Below w.heap.size w w' := by
  unfold mH mL mE
  by_cases h : Fac n
  · by_cases k : Fac m
    · rw [if_pos ⟨h, k⟩, if_pos ⟨h, k⟩, if_pos ⟨h, k⟩]; exact mul_ok n m w h k
    · rw [if_neg (fun x => k x.2), if_neg (fun x => k x.2), if_neg (fun x => k x.2)]; exact mul_no2 n m w h k
  · rw [if_neg (fun x => h x.1), if_neg (fun x => h x.1), if_neg (fun x => h x.1)]; exact mul_no1 n m w h
theorem mul_turn (n m : Int) : mE m n = mE n m ∧ mH m n = mH n m ∧ mL m n = mL n m := by
  unfold mE mH mL
  by_cases h : Fac n <;> by_cases k : Fac m <;> simp [h, k, Int.mul_comm]

theorem mul_facts {n m : Int} (h : mE n m = 0) : Rt (mH n m) (mL n m) ∧ cmpI (mH n m) (mL n m) 0 0 = sg n * sg m := by
  have k : Fac n ∧ Fac m := by
    unfold mE at h; split at h
    · assumption
    · omega
  have b := mul_bd (x := n) (y := m) (p := 1000000000000000000) (q := 1000000000000000000) k.1.1 k.1.2 k.2.1 k.2.2 (by omega) (by omega)
  unfold mH mL
  rw [if_pos k, if_pos k, ← sg_mul, cmp_sg]
  refine ⟨?_, rfl⟩
  unfold Rt
  omega

set_option maxRecDepth 100000 in
set_option maxHeartbeats 4000000 in
theorem law_order_any (ah al bh bl ch cl n m : Int) (w : World) (ht : Tab w) (n0 : -9223372036854775808 ≤ n) (n1 : n ≤ 9223372036854775807) (m0 : -9223372036854775808 ≤ m) (m1 : m ≤ 9223372036854775807) :
    Calls Tryd.prog 6 #[.agg #[.int .i64 ah, .int .i64 al], .agg #[.int .i64 bh, .int .i64 bl], .agg #[.int .i64 ch, .int .i64 cl], .int .i64 n, .int .i64 m] w fun e w' => e = .returned (.bool true) ∧ Below w.heap.size w w' := by
  have HT := Lib.hid ht
  have CA := Lib.hid (fun (W : World) (b c : Nat) (h : Four W b ah al ch cl) => add2_any b c ah al ch cl W h)
  have CB := Lib.hid (fun (W : World) (b c : Nat) (h : Four W b bh bl ch cl) => add2_any b c bh bl ch cl W h)
  have CX := Lib.hid (fun (W : World) => cmp_any (aH ah al ch cl) (aL ah al ch cl) (aH bh bl ch cl) (aL bh bl ch cl) W)
  have EX := Lib.hid (cmpI_add ah al bh bl ch cl)
  have CT := Lib.hid (fun (W : World) => cmp_any ah al bh bl W)
  have CU := Lib.hid (fun (W : World) => cmpI_turn ah al bh bl ▸ cmp_any bh bl ah al W)
  have tb := cmpI_bd ah al bh bl
  clear ht
  generalize aH ah al ch cl = xh at *
  generalize aL ah al ch cl = xl at *
  generalize aE ah al ch cl = e1 at *
  generalize aH bh bl ch cl = yh at *
  generalize aL bh bl ch cl = yl at *
  generalize aE bh bl ch cl = e2 at *
  generalize cmpI ah al bh bl = t at *
  go_enter Tryd.func6, Tryd.ntmps6
  go_wp2_with fail
  (refine (CA.out _ _ _ ?hq).mono ?_; (case hq => exact ⟨by simp [go_sem], by simp [go_sem], by simp [go_sem], by simp [go_sem]⟩); rintro e w1 ⟨rfl, hb1⟩; have hB1 : Below w.heap.size w w1 := (by refine Below.trans ?_ (hb1.mono (by first | omega | (simp; done) | (simp; omega))); (repeat (first | exact Below.refl _ _ | assumption | refine Below.drew ?_ | refine below_drewN ?_ _ | refine Below.setCell ?_ (by first | omega | (simp; done) | (simp; omega)) _ | refine Below.alloc ?_ (by first | omega | (simp; done) | (simp; omega)) _))); have hsz1 : w.heap.size ≤ w1.heap.size := hB1.size)
  have a0 : w1.cell? ⟨w.heap.size, 0, none⟩ = some (.int .i64 ah) := keepc hb1 (keepa (keepa (keepa (by simp))))
  have a1 : w1.cell? ⟨w.heap.size, 1, none⟩ = some (.int .i64 al) := keepc hb1 (keepa (keepa (keepa (by simp))))
  have b0 : w1.cell? ⟨w.heap.size + 1, 0, none⟩ = some (.int .i64 bh) := keepc hb1 (keepa (keepa (by simp [go_sem])))
  have b1 : w1.cell? ⟨w.heap.size + 1, 1, none⟩ = some (.int .i64 bl) := keepc hb1 (keepa (keepa (by simp [go_sem])))
  have c0 : w1.cell? ⟨w.heap.size + 1 + 1, 0, none⟩ = some (.int .i64 ch) := keepc hb1 (keepa (by simp [go_sem]))
  have c1 : w1.cell? ⟨w.heap.size + 1 + 1, 1, none⟩ = some (.int .i64 cl) := keepc hb1 (keepa (by simp [go_sem]))
  (replace a0 := keepa (o := .cells #[.int .i64 xh, .int .i64 xl] 24) a0; replace a1 := keepa (o := .cells #[.int .i64 xh, .int .i64 xl] 24) a1; replace b0 := keepa (o := .cells #[.int .i64 xh, .int .i64 xl] 24) b0; replace b1 := keepa (o := .cells #[.int .i64 xh, .int .i64 xl] 24) b1; replace c0 := keepa (o := .cells #[.int .i64 xh, .int .i64 xl] 24) c0; replace c1 := keepa (o := .cells #[.int .i64 xh, .int .i64 xl] 24) c1)
  go_wp2_with fail
  (refine (CB.out _ _ _ ?hq).mono ?_; (case hq => exact ⟨by simp [go_sem], by simp [go_sem], by simp [go_sem], by simp [go_sem]⟩); rintro e w2 ⟨rfl, hb2⟩; have hB2 : Below w.heap.size w w2 := (by refine Below.trans ?_ (hb2.mono (by first | omega | (simp; done) | (simp; omega))); (repeat (first | exact Below.refl _ _ | assumption | refine Below.drew ?_ | refine below_drewN ?_ _ | refine Below.setCell ?_ (by first | omega | (simp; done) | (simp; omega)) _ | refine Below.alloc ?_ (by first | omega | (simp; done) | (simp; omega)) _))); have hsz2 : w.heap.size ≤ w2.heap.size := hB2.size; replace a0 := keepc hb2 (by first | exact a0 | exact keepa a0 | exact keepa (keepa a0) | (simp [go_sem, *]; done)); replace a1 := keepc hb2 (by first | exact a1 | exact keepa a1 | exact keepa (keepa a1) | (simp [go_sem, *]; done)); replace b0 := keepc hb2 (by first | exact b0 | exact keepa b0 | exact keepa (keepa b0) | (simp [go_sem, *]; done)); replace b1 := keepc hb2 (by first | exact b1 | exact keepa b1 | exact keepa (keepa b1) | (simp [go_sem, *]; done)))
  have x0 : w2.cell? ⟨w1.heap.size, 0, none⟩ = some (.int .i64 xh) := keepc hb2 (keepa (by simp))
  have x1 : w2.cell? ⟨w1.heap.size, 1, none⟩ = some (.int .i64 xl) := keepc hb2 (keepa (by simp))
  (replace a0 := keepa (o := .cells #[.int .i64 yh, .int .i64 yl] 24) a0; replace a1 := keepa (o := .cells #[.int .i64 yh, .int .i64 yl] 24) a1; replace b0 := keepa (o := .cells #[.int .i64 yh, .int .i64 yl] 24) b0; replace b1 := keepa (o := .cells #[.int .i64 yh, .int .i64 yl] 24) b1; replace x0 := keepa (o := .cells #[.int .i64 yh, .int .i64 yl] 24) x0; replace x1 := keepa (o := .cells #[.int .i64 yh, .int .i64 yl] 24) x1)
  have y0 : (w2.alloc (.cells #[.int .i64 yh, .int .i64 yl] 24)).cell? ⟨w2.heap.size, 0, none⟩ = some (.int .i64 yh) := by simp
  have y1 : (w2.alloc (.cells #[.int .i64 yh, .int .i64 yl] 24)).cell? ⟨w2.heap.size, 1, none⟩ = some (.int .i64 yl) := by simp
  have B2 : Below w.heap.size w (w2.alloc (.cells #[.int .i64 yh, .int .i64 yl] 24)) := hB2.alloc hsz2 _
  go_upto_region 3 with fail
  generalize (w2.alloc (.cells #[.int .i64 yh, .int .i64 yl] 24)) = V at *
  have HB2 := Lib.hid B2
  clear hB1 hB2 hb1 hb2 B2 c0 c1
  go_cut [49] (fun s W => s = .bool false ∧ Below w.heap.size w W ∧ W.cell? ⟨w.heap.size, 0, none⟩ = some (.int .i64 ah) ∧ W.cell? ⟨w.heap.size, 1, none⟩ = some (.int .i64 al) ∧ W.cell? ⟨w.heap.size + 1, 0, none⟩ = some (.int .i64 bh) ∧ W.cell? ⟨w.heap.size + 1, 1, none⟩ = some (.int .i64 bl))
  case first =>
    by_cases h1 : e1 = 0
    · by_cases h2 : e2 = 0
      · have cx : ∀ W : World, Calls Tryd.prog 24 #[.agg #[.int .i64 xh, .int .i64 xl], .agg #[.int .i64 yh, .int .i64 yl]] W fun e w' => e = .returned (.int .i64 t) ∧ Below W.heap.size W w' := fun W => EX.out h1 h2 ▸ CX.out W
        have CXT := Lib.hid cx
        clear cx
        subst h1
        subst h2
        go_region_held3 (fun W => Below w.heap.size w W ∧ W.cell? ⟨w.heap.size, 0, none⟩ = some (.int .i64 ah) ∧ W.cell? ⟨w.heap.size, 1, none⟩ = some (.int .i64 al) ∧ W.cell? ⟨w.heap.size + 1, 0, none⟩ = some (.int .i64 bh) ∧ W.cell? ⟨w.heap.size + 1, 1, none⟩ = some (.int .i64 bl) ∧
            W.cell? ⟨w1.heap.size, 0, none⟩ = some (.int .i64 xh) ∧ W.cell? ⟨w1.heap.size, 1, none⟩ = some (.int .i64 xl) ∧ W.cell? ⟨w2.heap.size, 0, none⟩ = some (.int .i64 yh) ∧ W.cell? ⟨w2.heap.size, 1, none⟩ = some (.int .i64 yl))
          (first | exact ⟨HB2.out.drew, a0, a1, b0, b1, x0, x1, y0, y1⟩ | (go_split_ands; exact ⟨Below.trans (by assumption) (hb.mono (Below.size (by assumption))), keepc hb (by assumption), keepc hb (by assumption), keepc hb (by assumption), keepc hb (by assumption), keepc hb (by assumption), keepc hb (by assumption), keepc hb (by assumption), keepc hb (by assumption)⟩))
          (first
            | (go_at_call 24; first | ((with_reducible refine (CXT.out _).mono ?_); rintro e w7 ⟨rfl, hb⟩) | ((with_reducible refine (CT.out _).mono ?_); rintro e w7 ⟨rfl, hb⟩)))
        go_wp2_with fail
        go_meet
        go_split_ands
        exact ⟨rfl, by assumption, by assumption, by assumption, by assumption, by assumption⟩
      · have d2 : (e2 == 0) = false := by rw [beq_eq_false_iff_ne]; exact h2
        subst h1
        clear h2
        go_quiet (fail)
        go_wp2_with fail
        go_meet
        exact ⟨rfl, below_drewN HB2.out _, a0, a1, b0, b1⟩
    · have d1 : (e1 == 0) = false := by rw [beq_eq_false_iff_ne]; exact h1
      clear h1
      go_quiet (fail)
      go_wp2_with fail
      go_meet
      exact ⟨rfl, below_drewN HB2.out _, a0, a1, b0, b1⟩
  case rest =>
    clear a0 a1 b0 b1 x0 x1 y0 y1 HB2 CX EX CA CB
    obtain ⟨rfl, hB, a0, a1, b0, b1⟩ := hcut
    have HB := Lib.hid hB
    have hszc : w.heap.size ≤ wc.heap.size := hB.size
    have CM := Lib.hid (fun (W : World) => mul_any n m W)
    have CN := Lib.hid (fun (W : World) => (by have h := mul_any m n W; rw [(mul_turn n m).1, (mul_turn n m).2.1, (mul_turn n m).2.2] at h; exact h : Calls Tryd.prog 9 #[.int .i64 m, .int .i64 n] W fun e w' => e = .returned (.tuple #[.agg #[.int .i64 (mH n m), .int .i64 (mL n m)], .int .i64 (mE n m)]) ∧ Below W.heap.size W w'))
    have MF := Lib.hid (@mul_facts n m)
    have CP := Lib.hid (fun (W : World) => cmp_any (mH n m) (mL n m) 0 0 W)
    generalize mH n m = ph at *
    generalize mL n m = pl at *
    generalize mE n m = g at *
    clear hB
    go_wp2_with fail
    refine (CM.out _).mono ?_
    rintro e w3 ⟨rfl, hb⟩
    have hB3 : Below w.heap.size w w3 := HB.out.trans (hb.mono hszc)
    have hsz3 : w.heap.size ≤ w3.heap.size := hB3.size
    replace a0 := keepc hb a0
    replace a1 := keepc hb a1
    replace b0 := keepc hb b0
    replace b1 := keepc hb b1
    clear hb
    go_wp2_with fail
    (refine (CN.out _).mono ?_; rintro e w4 ⟨rfl, hb4⟩; have hB4 : Below w.heap.size w w4 := (by refine Below.trans ?_ (hb4.mono (by first | omega | (simp; done) | (simp; omega))); (repeat (first | exact Below.refl _ _ | assumption | refine Below.drew ?_ | refine below_drewN ?_ _ | refine Below.setCell ?_ (by first | omega | (simp; done) | (simp; omega)) _ | refine Below.alloc ?_ (by first | omega | (simp; done) | (simp; omega)) _))); have hsz4 : w.heap.size ≤ w4.heap.size := hB4.size; replace a0 := keepc hb4 (by first | exact a0 | exact keepa a0 | exact keepa (keepa a0) | (simp [go_sem, *]; done)); replace a1 := keepc hb4 (by first | exact a1 | exact keepa a1 | exact keepa (keepa a1) | (simp [go_sem, *]; done)); replace b0 := keepc hb4 (by first | exact b0 | exact keepa b0 | exact keepa (keepa b0) | (simp [go_sem, *]; done)); replace b1 := keepc hb4 (by first | exact b1 | exact keepa b1 | exact keepa (keepa b1) | (simp [go_sem, *]; done)))
    have p0 : w4.cell? ⟨w3.heap.size, 0, none⟩ = some (.int .i64 ph) := keepc hb4 (by simp)
    have p1 : w4.cell? ⟨w3.heap.size, 1, none⟩ = some (.int .i64 pl) := keepc hb4 (by simp)
    (replace a0 := keepa (o := .cells #[.int .i64 ph, .int .i64 pl] 24) a0; replace a1 := keepa (o := .cells #[.int .i64 ph, .int .i64 pl] 24) a1; replace b0 := keepa (o := .cells #[.int .i64 ph, .int .i64 pl] 24) b0; replace b1 := keepa (o := .cells #[.int .i64 ph, .int .i64 pl] 24) b1; replace p0 := keepa (o := .cells #[.int .i64 ph, .int .i64 pl] 24) p0; replace p1 := keepa (o := .cells #[.int .i64 ph, .int .i64 pl] 24) p1)
    have q0 : (w4.alloc (.cells #[.int .i64 ph, .int .i64 pl] 24)).cell? ⟨w4.heap.size, 0, none⟩ = some (.int .i64 ph) := by simp
    have q1 : (w4.alloc (.cells #[.int .i64 ph, .int .i64 pl] 24)).cell? ⟨w4.heap.size, 1, none⟩ = some (.int .i64 pl) := by simp
    have B4 : Below w.heap.size w (w4.alloc (.cells #[.int .i64 ph, .int .i64 pl] 24)) := hB4.alloc hsz4 _
    go_upto_region 7 with fail
    generalize (w4.alloc (.cells #[.int .i64 ph, .int .i64 pl] 24)) = V4 at *
    have HB4 := Lib.hid B4
    clear hB3 hB4 hb4 B4
    go_cut [79] (fun s W => s = .bool false ∧ Below w.heap.size w W ∧ W.cell? ⟨w3.heap.size, 0, none⟩ = some (.int .i64 ph) ∧ W.cell? ⟨w3.heap.size, 1, none⟩ = some (.int .i64 pl))
    case first =>
      go_region_held3 (fun W => Below w.heap.size w W ∧ W.cell? ⟨w.heap.size, 0, none⟩ = some (.int .i64 ah) ∧ W.cell? ⟨w.heap.size, 1, none⟩ = some (.int .i64 al) ∧ W.cell? ⟨w.heap.size + 1, 0, none⟩ = some (.int .i64 bh) ∧ W.cell? ⟨w.heap.size + 1, 1, none⟩ = some (.int .i64 bl) ∧
          W.cell? ⟨w3.heap.size, 0, none⟩ = some (.int .i64 ph) ∧ W.cell? ⟨w3.heap.size, 1, none⟩ = some (.int .i64 pl) ∧ W.cell? ⟨w4.heap.size, 0, none⟩ = some (.int .i64 ph) ∧ W.cell? ⟨w4.heap.size, 1, none⟩ = some (.int .i64 pl))
        (first | exact ⟨HB4.out.drew, a0, a1, b0, b1, p0, p1, q0, q1⟩ | (go_split_ands; exact ⟨Below.trans (by assumption) (hb.mono (Below.size (by assumption))), keepc hb (by assumption), keepc hb (by assumption), keepc hb (by assumption), keepc hb (by assumption), keepc hb (by assumption), keepc hb (by assumption), keepc hb (by assumption), keepc hb (by assumption)⟩))
        (first
          | (go_at_call 24; first | ((with_reducible refine (CT.out _).mono ?_); rintro e w7 ⟨rfl, hb⟩) | ((with_reducible refine (CU.out _).mono ?_); rintro e w7 ⟨rfl, hb⟩)))
      go_wp2_with fail
      go_meet
      go_split_ands
      exact ⟨by rw [Int.add_right_neg]; rfl, by assumption, by assumption, by assumption⟩
    case rest =>
      clear a0 a1 b0 b1 p0 p1 q0 q1 HB4 HB CM CN CT CU hsz3 hsz4
      obtain ⟨rfl, hB, p0, p1⟩ := hcut
      have HB := Lib.hid hB
      clear hB
      have hszd : w.heap.size ≤ wc.heap.size := HB.out.size
      have CS := Lib.hid (fun (W : World) => cmp_sg n ▸ cmp_any (n / 1000000000000000000) (n % 1000000000000000000) 0 0 W)
      have CV := Lib.hid (fun (W : World) => cmp_sg m ▸ cmp_any (m / 1000000000000000000) (m % 1000000000000000000) 0 0 W)
      have s1 := sg_bd n
      have s2 := sg_bd m
      have s3 := mul_bd s1.1 s1.2 s2.1 s2.2 (by omega) (by omega)
      have CNM := Lib.hid (fun (W : World) => cmp_any (n / 1000000000000000000) (n % 1000000000000000000) (m / 1000000000000000000) (m % 1000000000000000000) W)
      have CMN := Lib.hid (fun (W : World) => cmpI_turn (n / 1000000000000000000) (n % 1000000000000000000) (m / 1000000000000000000) (m % 1000000000000000000) ▸ cmp_any (m / 1000000000000000000) (m % 1000000000000000000) (n / 1000000000000000000) (n % 1000000000000000000) W)
      have tf := Lib.hid (cmp_ints n m)
      have tb2 := cmpI_bd (n / 1000000000000000000) (n % 1000000000000000000) (m / 1000000000000000000) (m % 1000000000000000000)
      generalize cmpI (n / 1000000000000000000) (n % 1000000000000000000) (m / 1000000000000000000) (m % 1000000000000000000) = t2 at *
      generalize sg n = sn at *
      generalize sg m = sm at *
      have wp : IntKind.i64.wrap (sn * sm) = sn * sm := IntWalk.i64_in _ (by omega)
      go_wp2_with fail
      refine (of_any 0 _ (by omega) (by omega)).mono ?_
      rintro e w5 ⟨rfl, hb⟩
      have hB5 : Below w.heap.size w w5 := HB.out.trans (hb.mono hszd)
      have hsz5 : w.heap.size ≤ w5.heap.size := hB5.size
      replace p0 := keepc hb p0
      replace p1 := keepc hb p1
      clear hb
      have z0 : (w5.alloc (.cells #[.int .i64 0, .int .i64 0] 24)).cell? ⟨w5.heap.size, 0, none⟩ = some (.int .i64 0) := by simp
      have z1 : (w5.alloc (.cells #[.int .i64 0, .int .i64 0] 24)).cell? ⟨w5.heap.size, 1, none⟩ = some (.int .i64 0) := by simp
      (replace p0 := keepa (o := .cells #[.int .i64 0, .int .i64 0] 24) p0; replace p1 := keepa (o := .cells #[.int .i64 0, .int .i64 0] 24) p1)
      have B5 : Below w.heap.size w (w5.alloc (.cells #[.int .i64 0, .int .i64 0] 24)) := hB5.alloc hsz5 _
      go_upto_region 10 with fail
      generalize (w5.alloc (.cells #[.int .i64 0, .int .i64 0] 24)) = V5 at *
      have HB5 := Lib.hid B5
      clear hB5 B5
      go_cut [20] (fun s W => s = .int .i64 (sn * sm) ∧ Below w.heap.size w W ∧ W.cell? ⟨w3.heap.size, 0, none⟩ = some (.int .i64 ph) ∧ W.cell? ⟨w3.heap.size, 1, none⟩ = some (.int .i64 pl) ∧ W.cell? ⟨w5.heap.size, 0, none⟩ = some (.int .i64 0) ∧ W.cell? ⟨w5.heap.size, 1, none⟩ = some (.int .i64 0))
      case first =>
        go_region_held3 (fun W => Below w.heap.size w W ∧ W.cell? ⟨w3.heap.size, 0, none⟩ = some (.int .i64 ph) ∧ W.cell? ⟨w3.heap.size, 1, none⟩ = some (.int .i64 pl) ∧ W.cell? ⟨w5.heap.size, 0, none⟩ = some (.int .i64 0) ∧ W.cell? ⟨w5.heap.size, 1, none⟩ = some (.int .i64 0))
          (first | exact ⟨HB5.out.drew, p0, p1, z0, z1⟩ | (go_split_ands; exact ⟨Below.trans (by assumption) (hb.mono (Below.size (by assumption))), keepc hb (by assumption), keepc hb (by assumption), keepc hb (by assumption), keepc hb (by assumption)⟩))
          (first
            | (go_at_call 18; first | ((with_reducible refine (of_any n _ n0 n1).mono ?_); rintro e w7 ⟨rfl, hb⟩) | ((with_reducible refine (of_any m _ m0 m1).mono ?_); rintro e w7 ⟨rfl, hb⟩))
            | (go_at_call 24; first | ((with_reducible refine (CS.out _).mono ?_); rintro e w7 ⟨rfl, hb⟩) | ((with_reducible refine (CV.out _).mono ?_); rintro e w7 ⟨rfl, hb⟩)))
        all_goals go_wp2_with fail
        all_goals go_meet
        all_goals go_split_ands
        all_goals exact ⟨rfl, by assumption, by assumption, by assumption, by assumption, by assumption⟩
      case rest =>
        clear p0 p1 z0 z1 HB5 HB CS CV hszd hsz5 wp
        obtain ⟨rfl, hB6, p0, p1, z0, z1⟩ := hcut
        have HB6 := Lib.hid hB6
        have hsz6 : w.heap.size ≤ wc.heap.size := hB6.size
        clear hB6
        by_cases hg : g = 0
        · subst hg
          obtain ⟨mf1, mf2⟩ := MF.out rfl
          have RP := Lib.hid mf1
          have CP2 := Lib.hid (fun (W : World) => mf2 ▸ CP.out W)
          clear mf1 mf2 MF CP
          by_cases hn : n < m
          · have tn : t2 < 0 := tf.out.1 hn
            go_wp2_with fail
            refine (widened_any _ (HT.out.below HB6.out)).mono ?_
            rintro e w7 ⟨rfl, hb7⟩
            have hB7 : Below w.heap.size w w7 := HB6.out.trans (hb7.mono hsz6)
            have hsz7 : w.heap.size ≤ w7.heap.size := hB7.size
            replace p0 := keepc hb7 p0
            replace p1 := keepc hb7 p1
            replace z0 := keepc hb7 z0
            replace z1 := keepc hb7 z1
            clear hb7
            go_wp2_with fail
            (refine (CP2.out _).mono ?_; rintro e w8 ⟨rfl, hb8⟩; have hB8 : Below w.heap.size w w8 := (by refine Below.trans ?_ (hb8.mono (by first | omega | (simp; done) | (simp; omega))); (repeat (first | exact Below.refl _ _ | assumption | refine Below.drew ?_ | refine below_drewN ?_ _ | refine Below.setCell ?_ (by first | omega | (simp; done) | (simp; omega)) _ | refine Below.alloc ?_ (by first | omega | (simp; done) | (simp; omega)) _))); have hsz8 : w.heap.size ≤ w8.heap.size := hB8.size; replace p0 := keepc hb8 (by first | exact p0 | exact keepa p0 | exact keepa (keepa p0) | (simp [go_sem, *]; done)); replace p1 := keepc hb8 (by first | exact p1 | exact keepa p1 | exact keepa (keepa p1) | (simp [go_sem, *]; done)))
            go_wp2_with fail
            (refine (is_yes _ _ _ RP.out).mono ?_; rintro e w9 ⟨rfl, hb9⟩; have hB9 : Below w.heap.size w w9 := (by refine Below.trans ?_ (hb9.mono (by first | omega | (simp; done) | (simp; omega))); (repeat (first | exact Below.refl _ _ | assumption | refine Below.drew ?_ | refine below_drewN ?_ _ | refine Below.setCell ?_ (by first | omega | (simp; done) | (simp; omega)) _ | refine Below.alloc ?_ (by first | omega | (simp; done) | (simp; omega)) _))); have hsz9 : w.heap.size ≤ w9.heap.size := hB9.size)
            go_wp2_with fail
            (refine (of_any _ _ n0 n1).mono ?_; rintro e w10 ⟨rfl, hb10⟩; have hB10 : Below w.heap.size w w10 := (by refine Below.trans ?_ (hb10.mono (by first | omega | (simp; done) | (simp; omega))); (repeat (first | exact Below.refl _ _ | assumption | refine Below.drew ?_ | refine below_drewN ?_ _ | refine Below.setCell ?_ (by first | omega | (simp; done) | (simp; omega)) _ | refine Below.alloc ?_ (by first | omega | (simp; done) | (simp; omega)) _))); have hsz10 : w.heap.size ≤ w10.heap.size := hB10.size)
            go_wp2_with fail
            (refine (of_any _ _ m0 m1).mono ?_; rintro e w11 ⟨rfl, hb11⟩; have hB11 : Below w.heap.size w w11 := (by refine Below.trans ?_ (hb11.mono (by first | omega | (simp; done) | (simp; omega))); (repeat (first | exact Below.refl _ _ | assumption | refine Below.drew ?_ | refine below_drewN ?_ _ | refine Below.setCell ?_ (by first | omega | (simp; done) | (simp; omega)) _ | refine Below.alloc ?_ (by first | omega | (simp; done) | (simp; omega)) _))); have hsz11 : w.heap.size ≤ w11.heap.size := hB11.size)
            go_wp2_with fail
            (refine (CNM.out _).mono ?_; rintro e w12 ⟨rfl, hb12⟩; have hB12 : Below w.heap.size w w12 := (by refine Below.trans ?_ (hb12.mono (by first | omega | (simp; done) | (simp; omega))); (repeat (first | exact Below.refl _ _ | assumption | refine Below.drew ?_ | refine below_drewN ?_ _ | refine Below.setCell ?_ (by first | omega | (simp; done) | (simp; omega)) _ | refine Below.alloc ?_ (by first | omega | (simp; done) | (simp; omega)) _))); have hsz12 : w.heap.size ≤ w12.heap.size := hB12.size)
            go_wp2_with fail
            (refine (of_any _ _ m0 m1).mono ?_; rintro e w13 ⟨rfl, hb13⟩; have hB13 : Below w.heap.size w w13 := (by refine Below.trans ?_ (hb13.mono (by first | omega | (simp; done) | (simp; omega))); (repeat (first | exact Below.refl _ _ | assumption | refine Below.drew ?_ | refine below_drewN ?_ _ | refine Below.setCell ?_ (by first | omega | (simp; done) | (simp; omega)) _ | refine Below.alloc ?_ (by first | omega | (simp; done) | (simp; omega)) _))); have hsz13 : w.heap.size ≤ w13.heap.size := hB13.size)
            go_wp2_with fail
            (refine (of_any _ _ n0 n1).mono ?_; rintro e w14 ⟨rfl, hb14⟩; have hB14 : Below w.heap.size w w14 := (by refine Below.trans ?_ (hb14.mono (by first | omega | (simp; done) | (simp; omega))); (repeat (first | exact Below.refl _ _ | assumption | refine Below.drew ?_ | refine below_drewN ?_ _ | refine Below.setCell ?_ (by first | omega | (simp; done) | (simp; omega)) _ | refine Below.alloc ?_ (by first | omega | (simp; done) | (simp; omega)) _))); have hsz14 : w.heap.size ≤ w14.heap.size := hB14.size)
            go_wp2_with fail
            (refine (CMN.out _).mono ?_; rintro e w15 ⟨rfl, hb15⟩; have hB15 : Below w.heap.size w w15 := (by refine Below.trans ?_ (hb15.mono (by first | omega | (simp; done) | (simp; omega))); (repeat (first | exact Below.refl _ _ | assumption | refine Below.drew ?_ | refine below_drewN ?_ _ | refine Below.setCell ?_ (by first | omega | (simp; done) | (simp; omega)) _ | refine Below.alloc ?_ (by first | omega | (simp; done) | (simp; omega)) _))); have hsz15 : w.heap.size ≤ w15.heap.size := hB15.size)
            go_wp2_with fail
            (refine (of_any _ _ n0 n1).mono ?_; rintro e w16 ⟨rfl, hb16⟩; have hB16 : Below w.heap.size w w16 := (by refine Below.trans ?_ (hb16.mono (by first | omega | (simp; done) | (simp; omega))); (repeat (first | exact Below.refl _ _ | assumption | refine Below.drew ?_ | refine below_drewN ?_ _ | refine Below.setCell ?_ (by first | omega | (simp; done) | (simp; omega)) _ | refine Below.alloc ?_ (by first | omega | (simp; done) | (simp; omega)) _))); have hsz16 : w.heap.size ≤ w16.heap.size := hB16.size)
            go_wp2_with fail
            (refine (of_any _ _ m0 m1).mono ?_; rintro e w17 ⟨rfl, hb17⟩; have hB17 : Below w.heap.size w w17 := (by refine Below.trans ?_ (hb17.mono (by first | omega | (simp; done) | (simp; omega))); (repeat (first | exact Below.refl _ _ | assumption | refine Below.drew ?_ | refine below_drewN ?_ _ | refine Below.setCell ?_ (by first | omega | (simp; done) | (simp; omega)) _ | refine Below.alloc ?_ (by first | omega | (simp; done) | (simp; omega)) _))); have hsz17 : w.heap.size ≤ w17.heap.size := hB17.size)
            go_wp2_with fail
            (refine (CNM.out _).mono ?_; rintro e w18 ⟨rfl, hb18⟩; have hB18 : Below w.heap.size w w18 := (by refine Below.trans ?_ (hb18.mono (by first | omega | (simp; done) | (simp; omega))); (repeat (first | exact Below.refl _ _ | assumption | refine Below.drew ?_ | refine below_drewN ?_ _ | refine Below.setCell ?_ (by first | omega | (simp; done) | (simp; omega)) _ | refine Below.alloc ?_ (by first | omega | (simp; done) | (simp; omega)) _))); have hsz18 : w.heap.size ≤ w18.heap.size := hB18.size)
            go_wp2_with fail
            go_ret
            exact ⟨rfl, hB18⟩
          · have dt : decide (t2 < 0) = false := by have := tf.out.2 (by omega); simp; omega
            have dn : decide (n < m) = false := by simp; omega
            go_wp2_with fail
            refine (widened_any _ (HT.out.below HB6.out)).mono ?_
            rintro e w7 ⟨rfl, hb7⟩
            have hB7 : Below w.heap.size w w7 := HB6.out.trans (hb7.mono hsz6)
            have hsz7 : w.heap.size ≤ w7.heap.size := hB7.size
            replace p0 := keepc hb7 p0
            replace p1 := keepc hb7 p1
            replace z0 := keepc hb7 z0
            replace z1 := keepc hb7 z1
            clear hb7
            go_wp2_with fail
            (refine (CP2.out _).mono ?_; rintro e w8 ⟨rfl, hb8⟩; have hB8 : Below w.heap.size w w8 := (by refine Below.trans ?_ (hb8.mono (by first | omega | (simp; done) | (simp; omega))); (repeat (first | exact Below.refl _ _ | assumption | refine Below.drew ?_ | refine below_drewN ?_ _ | refine Below.setCell ?_ (by first | omega | (simp; done) | (simp; omega)) _ | refine Below.alloc ?_ (by first | omega | (simp; done) | (simp; omega)) _))); have hsz8 : w.heap.size ≤ w8.heap.size := hB8.size; replace p0 := keepc hb8 (by first | exact p0 | exact keepa p0 | exact keepa (keepa p0) | (simp [go_sem, *]; done)); replace p1 := keepc hb8 (by first | exact p1 | exact keepa p1 | exact keepa (keepa p1) | (simp [go_sem, *]; done)))
            go_wp2_with fail
            (refine (is_yes _ _ _ RP.out).mono ?_; rintro e w9 ⟨rfl, hb9⟩; have hB9 : Below w.heap.size w w9 := (by refine Below.trans ?_ (hb9.mono (by first | omega | (simp; done) | (simp; omega))); (repeat (first | exact Below.refl _ _ | assumption | refine Below.drew ?_ | refine below_drewN ?_ _ | refine Below.setCell ?_ (by first | omega | (simp; done) | (simp; omega)) _ | refine Below.alloc ?_ (by first | omega | (simp; done) | (simp; omega)) _))); have hsz9 : w.heap.size ≤ w9.heap.size := hB9.size)
            go_wp2_with fail
            (refine (of_any _ _ n0 n1).mono ?_; rintro e w10 ⟨rfl, hb10⟩; have hB10 : Below w.heap.size w w10 := (by refine Below.trans ?_ (hb10.mono (by first | omega | (simp; done) | (simp; omega))); (repeat (first | exact Below.refl _ _ | assumption | refine Below.drew ?_ | refine below_drewN ?_ _ | refine Below.setCell ?_ (by first | omega | (simp; done) | (simp; omega)) _ | refine Below.alloc ?_ (by first | omega | (simp; done) | (simp; omega)) _))); have hsz10 : w.heap.size ≤ w10.heap.size := hB10.size)
            go_wp2_with fail
            (refine (of_any _ _ m0 m1).mono ?_; rintro e w11 ⟨rfl, hb11⟩; have hB11 : Below w.heap.size w w11 := (by refine Below.trans ?_ (hb11.mono (by first | omega | (simp; done) | (simp; omega))); (repeat (first | exact Below.refl _ _ | assumption | refine Below.drew ?_ | refine below_drewN ?_ _ | refine Below.setCell ?_ (by first | omega | (simp; done) | (simp; omega)) _ | refine Below.alloc ?_ (by first | omega | (simp; done) | (simp; omega)) _))); have hsz11 : w.heap.size ≤ w11.heap.size := hB11.size)
            go_wp2_with fail
            (refine (CNM.out _).mono ?_; rintro e w12 ⟨rfl, hb12⟩; have hB12 : Below w.heap.size w w12 := (by refine Below.trans ?_ (hb12.mono (by first | omega | (simp; done) | (simp; omega))); (repeat (first | exact Below.refl _ _ | assumption | refine Below.drew ?_ | refine below_drewN ?_ _ | refine Below.setCell ?_ (by first | omega | (simp; done) | (simp; omega)) _ | refine Below.alloc ?_ (by first | omega | (simp; done) | (simp; omega)) _))); have hsz12 : w.heap.size ≤ w12.heap.size := hB12.size)
            go_wp2_with fail
            (refine (of_any _ _ m0 m1).mono ?_; rintro e w13 ⟨rfl, hb13⟩; have hB13 : Below w.heap.size w w13 := (by refine Below.trans ?_ (hb13.mono (by first | omega | (simp; done) | (simp; omega))); (repeat (first | exact Below.refl _ _ | assumption | refine Below.drew ?_ | refine below_drewN ?_ _ | refine Below.setCell ?_ (by first | omega | (simp; done) | (simp; omega)) _ | refine Below.alloc ?_ (by first | omega | (simp; done) | (simp; omega)) _))); have hsz13 : w.heap.size ≤ w13.heap.size := hB13.size)
            go_wp2_with fail
            (refine (of_any _ _ n0 n1).mono ?_; rintro e w14 ⟨rfl, hb14⟩; have hB14 : Below w.heap.size w w14 := (by refine Below.trans ?_ (hb14.mono (by first | omega | (simp; done) | (simp; omega))); (repeat (first | exact Below.refl _ _ | assumption | refine Below.drew ?_ | refine below_drewN ?_ _ | refine Below.setCell ?_ (by first | omega | (simp; done) | (simp; omega)) _ | refine Below.alloc ?_ (by first | omega | (simp; done) | (simp; omega)) _))); have hsz14 : w.heap.size ≤ w14.heap.size := hB14.size)
            go_wp2_with fail
            (refine (CMN.out _).mono ?_; rintro e w15 ⟨rfl, hb15⟩; have hB15 : Below w.heap.size w w15 := (by refine Below.trans ?_ (hb15.mono (by first | omega | (simp; done) | (simp; omega))); (repeat (first | exact Below.refl _ _ | assumption | refine Below.drew ?_ | refine below_drewN ?_ _ | refine Below.setCell ?_ (by first | omega | (simp; done) | (simp; omega)) _ | refine Below.alloc ?_ (by first | omega | (simp; done) | (simp; omega)) _))); have hsz15 : w.heap.size ≤ w15.heap.size := hB15.size)
            go_wp2_with fail
            (refine (of_any _ _ n0 n1).mono ?_; rintro e w16 ⟨rfl, hb16⟩; have hB16 : Below w.heap.size w w16 := (by refine Below.trans ?_ (hb16.mono (by first | omega | (simp; done) | (simp; omega))); (repeat (first | exact Below.refl _ _ | assumption | refine Below.drew ?_ | refine below_drewN ?_ _ | refine Below.setCell ?_ (by first | omega | (simp; done) | (simp; omega)) _ | refine Below.alloc ?_ (by first | omega | (simp; done) | (simp; omega)) _))); have hsz16 : w.heap.size ≤ w16.heap.size := hB16.size)
            go_wp2_with fail
            (refine (of_any _ _ m0 m1).mono ?_; rintro e w17 ⟨rfl, hb17⟩; have hB17 : Below w.heap.size w w17 := (by refine Below.trans ?_ (hb17.mono (by first | omega | (simp; done) | (simp; omega))); (repeat (first | exact Below.refl _ _ | assumption | refine Below.drew ?_ | refine below_drewN ?_ _ | refine Below.setCell ?_ (by first | omega | (simp; done) | (simp; omega)) _ | refine Below.alloc ?_ (by first | omega | (simp; done) | (simp; omega)) _))); have hsz17 : w.heap.size ≤ w17.heap.size := hB17.size)
            go_wp2_with fail
            (refine (CNM.out _).mono ?_; rintro e w18 ⟨rfl, hb18⟩; have hB18 : Below w.heap.size w w18 := (by refine Below.trans ?_ (hb18.mono (by first | omega | (simp; done) | (simp; omega))); (repeat (first | exact Below.refl _ _ | assumption | refine Below.drew ?_ | refine below_drewN ?_ _ | refine Below.setCell ?_ (by first | omega | (simp; done) | (simp; omega)) _ | refine Below.alloc ?_ (by first | omega | (simp; done) | (simp; omega)) _))); have hsz18 : w.heap.size ≤ w18.heap.size := hB18.size)
            go_wp2_with fail
            go_ret
            exact ⟨rfl, hB18⟩
        · have hg' : (g != 0) = true := by rw [bne_iff_ne]; exact hg
          clear hg MF CP
          by_cases hn : n < m
          · have tn : t2 < 0 := tf.out.1 hn
            go_wp2_with fail
            refine (widened_any _ (HT.out.below HB6.out)).mono ?_
            rintro e w7 ⟨rfl, hb7⟩
            have hB7 : Below w.heap.size w w7 := HB6.out.trans (hb7.mono hsz6)
            have hsz7 : w.heap.size ≤ w7.heap.size := hB7.size
            replace p0 := keepc hb7 p0
            replace p1 := keepc hb7 p1
            replace z0 := keepc hb7 z0
            replace z1 := keepc hb7 z1
            clear hb7
            go_wp2_with fail
            (refine (of_any _ _ n0 n1).mono ?_; rintro e w10 ⟨rfl, hb10⟩; have hB10 : Below w.heap.size w w10 := (by refine Below.trans ?_ (hb10.mono (by first | omega | (simp; done) | (simp; omega))); (repeat (first | exact Below.refl _ _ | assumption | refine Below.drew ?_ | refine below_drewN ?_ _ | refine Below.setCell ?_ (by first | omega | (simp; done) | (simp; omega)) _ | refine Below.alloc ?_ (by first | omega | (simp; done) | (simp; omega)) _))); have hsz10 : w.heap.size ≤ w10.heap.size := hB10.size)
            go_wp2_with fail
            (refine (of_any _ _ m0 m1).mono ?_; rintro e w11 ⟨rfl, hb11⟩; have hB11 : Below w.heap.size w w11 := (by refine Below.trans ?_ (hb11.mono (by first | omega | (simp; done) | (simp; omega))); (repeat (first | exact Below.refl _ _ | assumption | refine Below.drew ?_ | refine below_drewN ?_ _ | refine Below.setCell ?_ (by first | omega | (simp; done) | (simp; omega)) _ | refine Below.alloc ?_ (by first | omega | (simp; done) | (simp; omega)) _))); have hsz11 : w.heap.size ≤ w11.heap.size := hB11.size)
            go_wp2_with fail
            (refine (CNM.out _).mono ?_; rintro e w12 ⟨rfl, hb12⟩; have hB12 : Below w.heap.size w w12 := (by refine Below.trans ?_ (hb12.mono (by first | omega | (simp; done) | (simp; omega))); (repeat (first | exact Below.refl _ _ | assumption | refine Below.drew ?_ | refine below_drewN ?_ _ | refine Below.setCell ?_ (by first | omega | (simp; done) | (simp; omega)) _ | refine Below.alloc ?_ (by first | omega | (simp; done) | (simp; omega)) _))); have hsz12 : w.heap.size ≤ w12.heap.size := hB12.size)
            go_wp2_with fail
            (refine (of_any _ _ m0 m1).mono ?_; rintro e w13 ⟨rfl, hb13⟩; have hB13 : Below w.heap.size w w13 := (by refine Below.trans ?_ (hb13.mono (by first | omega | (simp; done) | (simp; omega))); (repeat (first | exact Below.refl _ _ | assumption | refine Below.drew ?_ | refine below_drewN ?_ _ | refine Below.setCell ?_ (by first | omega | (simp; done) | (simp; omega)) _ | refine Below.alloc ?_ (by first | omega | (simp; done) | (simp; omega)) _))); have hsz13 : w.heap.size ≤ w13.heap.size := hB13.size)
            go_wp2_with fail
            (refine (of_any _ _ n0 n1).mono ?_; rintro e w14 ⟨rfl, hb14⟩; have hB14 : Below w.heap.size w w14 := (by refine Below.trans ?_ (hb14.mono (by first | omega | (simp; done) | (simp; omega))); (repeat (first | exact Below.refl _ _ | assumption | refine Below.drew ?_ | refine below_drewN ?_ _ | refine Below.setCell ?_ (by first | omega | (simp; done) | (simp; omega)) _ | refine Below.alloc ?_ (by first | omega | (simp; done) | (simp; omega)) _))); have hsz14 : w.heap.size ≤ w14.heap.size := hB14.size)
            go_wp2_with fail
            (refine (CMN.out _).mono ?_; rintro e w15 ⟨rfl, hb15⟩; have hB15 : Below w.heap.size w w15 := (by refine Below.trans ?_ (hb15.mono (by first | omega | (simp; done) | (simp; omega))); (repeat (first | exact Below.refl _ _ | assumption | refine Below.drew ?_ | refine below_drewN ?_ _ | refine Below.setCell ?_ (by first | omega | (simp; done) | (simp; omega)) _ | refine Below.alloc ?_ (by first | omega | (simp; done) | (simp; omega)) _))); have hsz15 : w.heap.size ≤ w15.heap.size := hB15.size)
            go_wp2_with fail
            (refine (of_any _ _ n0 n1).mono ?_; rintro e w16 ⟨rfl, hb16⟩; have hB16 : Below w.heap.size w w16 := (by refine Below.trans ?_ (hb16.mono (by first | omega | (simp; done) | (simp; omega))); (repeat (first | exact Below.refl _ _ | assumption | refine Below.drew ?_ | refine below_drewN ?_ _ | refine Below.setCell ?_ (by first | omega | (simp; done) | (simp; omega)) _ | refine Below.alloc ?_ (by first | omega | (simp; done) | (simp; omega)) _))); have hsz16 : w.heap.size ≤ w16.heap.size := hB16.size)
            go_wp2_with fail
            (refine (of_any _ _ m0 m1).mono ?_; rintro e w17 ⟨rfl, hb17⟩; have hB17 : Below w.heap.size w w17 := (by refine Below.trans ?_ (hb17.mono (by first | omega | (simp; done) | (simp; omega))); (repeat (first | exact Below.refl _ _ | assumption | refine Below.drew ?_ | refine below_drewN ?_ _ | refine Below.setCell ?_ (by first | omega | (simp; done) | (simp; omega)) _ | refine Below.alloc ?_ (by first | omega | (simp; done) | (simp; omega)) _))); have hsz17 : w.heap.size ≤ w17.heap.size := hB17.size)
            go_wp2_with fail
            (refine (CNM.out _).mono ?_; rintro e w18 ⟨rfl, hb18⟩; have hB18 : Below w.heap.size w w18 := (by refine Below.trans ?_ (hb18.mono (by first | omega | (simp; done) | (simp; omega))); (repeat (first | exact Below.refl _ _ | assumption | refine Below.drew ?_ | refine below_drewN ?_ _ | refine Below.setCell ?_ (by first | omega | (simp; done) | (simp; omega)) _ | refine Below.alloc ?_ (by first | omega | (simp; done) | (simp; omega)) _))); have hsz18 : w.heap.size ≤ w18.heap.size := hB18.size)
            go_wp2_with fail
            go_ret
            exact ⟨rfl, hB18⟩
          · have dt : decide (t2 < 0) = false := by have := tf.out.2 (by omega); simp; omega
            have dn : decide (n < m) = false := by simp; omega
            go_wp2_with fail
            refine (widened_any _ (HT.out.below HB6.out)).mono ?_
            rintro e w7 ⟨rfl, hb7⟩
            have hB7 : Below w.heap.size w w7 := HB6.out.trans (hb7.mono hsz6)
            have hsz7 : w.heap.size ≤ w7.heap.size := hB7.size
            replace p0 := keepc hb7 p0
            replace p1 := keepc hb7 p1
            replace z0 := keepc hb7 z0
            replace z1 := keepc hb7 z1
            clear hb7
            go_wp2_with fail
            (refine (of_any _ _ n0 n1).mono ?_; rintro e w10 ⟨rfl, hb10⟩; have hB10 : Below w.heap.size w w10 := (by refine Below.trans ?_ (hb10.mono (by first | omega | (simp; done) | (simp; omega))); (repeat (first | exact Below.refl _ _ | assumption | refine Below.drew ?_ | refine below_drewN ?_ _ | refine Below.setCell ?_ (by first | omega | (simp; done) | (simp; omega)) _ | refine Below.alloc ?_ (by first | omega | (simp; done) | (simp; omega)) _))); have hsz10 : w.heap.size ≤ w10.heap.size := hB10.size)
            go_wp2_with fail
            (refine (of_any _ _ m0 m1).mono ?_; rintro e w11 ⟨rfl, hb11⟩; have hB11 : Below w.heap.size w w11 := (by refine Below.trans ?_ (hb11.mono (by first | omega | (simp; done) | (simp; omega))); (repeat (first | exact Below.refl _ _ | assumption | refine Below.drew ?_ | refine below_drewN ?_ _ | refine Below.setCell ?_ (by first | omega | (simp; done) | (simp; omega)) _ | refine Below.alloc ?_ (by first | omega | (simp; done) | (simp; omega)) _))); have hsz11 : w.heap.size ≤ w11.heap.size := hB11.size)
            go_wp2_with fail
            (refine (CNM.out _).mono ?_; rintro e w12 ⟨rfl, hb12⟩; have hB12 : Below w.heap.size w w12 := (by refine Below.trans ?_ (hb12.mono (by first | omega | (simp; done) | (simp; omega))); (repeat (first | exact Below.refl _ _ | assumption | refine Below.drew ?_ | refine below_drewN ?_ _ | refine Below.setCell ?_ (by first | omega | (simp; done) | (simp; omega)) _ | refine Below.alloc ?_ (by first | omega | (simp; done) | (simp; omega)) _))); have hsz12 : w.heap.size ≤ w12.heap.size := hB12.size)
            go_wp2_with fail
            (refine (of_any _ _ m0 m1).mono ?_; rintro e w13 ⟨rfl, hb13⟩; have hB13 : Below w.heap.size w w13 := (by refine Below.trans ?_ (hb13.mono (by first | omega | (simp; done) | (simp; omega))); (repeat (first | exact Below.refl _ _ | assumption | refine Below.drew ?_ | refine below_drewN ?_ _ | refine Below.setCell ?_ (by first | omega | (simp; done) | (simp; omega)) _ | refine Below.alloc ?_ (by first | omega | (simp; done) | (simp; omega)) _))); have hsz13 : w.heap.size ≤ w13.heap.size := hB13.size)
            go_wp2_with fail
            (refine (of_any _ _ n0 n1).mono ?_; rintro e w14 ⟨rfl, hb14⟩; have hB14 : Below w.heap.size w w14 := (by refine Below.trans ?_ (hb14.mono (by first | omega | (simp; done) | (simp; omega))); (repeat (first | exact Below.refl _ _ | assumption | refine Below.drew ?_ | refine below_drewN ?_ _ | refine Below.setCell ?_ (by first | omega | (simp; done) | (simp; omega)) _ | refine Below.alloc ?_ (by first | omega | (simp; done) | (simp; omega)) _))); have hsz14 : w.heap.size ≤ w14.heap.size := hB14.size)
            go_wp2_with fail
            (refine (CMN.out _).mono ?_; rintro e w15 ⟨rfl, hb15⟩; have hB15 : Below w.heap.size w w15 := (by refine Below.trans ?_ (hb15.mono (by first | omega | (simp; done) | (simp; omega))); (repeat (first | exact Below.refl _ _ | assumption | refine Below.drew ?_ | refine below_drewN ?_ _ | refine Below.setCell ?_ (by first | omega | (simp; done) | (simp; omega)) _ | refine Below.alloc ?_ (by first | omega | (simp; done) | (simp; omega)) _))); have hsz15 : w.heap.size ≤ w15.heap.size := hB15.size)
            go_wp2_with fail
            (refine (of_any _ _ n0 n1).mono ?_; rintro e w16 ⟨rfl, hb16⟩; have hB16 : Below w.heap.size w w16 := (by refine Below.trans ?_ (hb16.mono (by first | omega | (simp; done) | (simp; omega))); (repeat (first | exact Below.refl _ _ | assumption | refine Below.drew ?_ | refine below_drewN ?_ _ | refine Below.setCell ?_ (by first | omega | (simp; done) | (simp; omega)) _ | refine Below.alloc ?_ (by first | omega | (simp; done) | (simp; omega)) _))); have hsz16 : w.heap.size ≤ w16.heap.size := hB16.size)
            go_wp2_with fail
            (refine (of_any _ _ m0 m1).mono ?_; rintro e w17 ⟨rfl, hb17⟩; have hB17 : Below w.heap.size w w17 := (by refine Below.trans ?_ (hb17.mono (by first | omega | (simp; done) | (simp; omega))); (repeat (first | exact Below.refl _ _ | assumption | refine Below.drew ?_ | refine below_drewN ?_ _ | refine Below.setCell ?_ (by first | omega | (simp; done) | (simp; omega)) _ | refine Below.alloc ?_ (by first | omega | (simp; done) | (simp; omega)) _))); have hsz17 : w.heap.size ≤ w17.heap.size := hB17.size)
            go_wp2_with fail
            (refine (CNM.out _).mono ?_; rintro e w18 ⟨rfl, hb18⟩; have hB18 : Below w.heap.size w w18 := (by refine Below.trans ?_ (hb18.mono (by first | omega | (simp; done) | (simp; omega))); (repeat (first | exact Below.refl _ _ | assumption | refine Below.drew ?_ | refine below_drewN ?_ _ | refine Below.setCell ?_ (by first | omega | (simp; done) | (simp; omega)) _ | refine Below.alloc ?_ (by first | omega | (simp; done) | (simp; omega)) _))); have hsz18 : w.heap.size ≤ w18.heap.size := hB18.size)
            go_wp2_with fail
            go_ret
            exact ⟨rfl, hB18⟩
end Go.Proofs.YtkgednbgafhcaaaDoor
