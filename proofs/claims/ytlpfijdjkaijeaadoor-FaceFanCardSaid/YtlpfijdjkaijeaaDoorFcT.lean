/-
  FaceFan. (gen/FcT.py)
-/
import Derived.Test.YtlpfijdjkaijeaaDoorFcO
import Derived.Test.YtlpfijdjkaijeaaDoorWideR
namespace Go.Proofs.YtlpfijdjkaijeaaDoor
open Go.RowKit

def PastC (V W : World) : Prop := Below V.heap.size V W
theorem pastC_stays (V : World) : Stays (PastC V) := fun _ _ h hb => Below.trans h (hb.mono (Below.size h))
@[go_sem high] theorem neq_corner (W : World) (x y z : Int) : (binOp .neq 23 (.agg #[.int .i64 x, .int .i64 y, .int .i64 z]) (.agg #[.int .i64 x, .int .i64 y, .int .i64 z])).run Tryd.prog W = .ok (.bool false) W := by
  simp [go_sem]
@[go_sem high] theorem eql_corner (W : World) (x y z : Int) : (binOp .eql 23 (.agg #[.int .i64 x, .int .i64 y, .int .i64 z]) (.agg #[.int .i64 x, .int .i64 y, .int .i64 z])).run Tryd.prog W = .ok (.bool true) W := by
  simp [go_sem]
set_option maxRecDepth 100000 in
set_option maxHeartbeats 8000000 in
theorem law_fan (A : Option Addr) (n c : Nat) (F : Nat → Nat → Int) (w : World) (hr : RowK w A n 3 F) (hn : n ≤ 9223372036854775807) (ht : Tab w) :
    Calls Tryd.prog 6 #[.slice A n c] w fun e w' => e = .returned (.bool true) ∧ Below w.heap.size w w' := by
  have HB := Lib.hid (Below.refl w.heap.size w)
  have HT := Lib.hid ht
  have RK := Lib.hid hr
  have FD := Lib.hid faced_any
  clear ht hr
  by_cases h6 : 60 < n
  · have h60 : (60 : Int) < n := by omega
    go_enter Tryd.func6, Tryd.ntmps6
    go_wp2_with fail
    go_ret
    exact ⟨rfl, HB.out⟩
  · have h60 : ¬ (60 : Int) < n := by omega
    have FN := Lib.hid (fun W (h : RowK W A n 3 F) => fan_any A n c F W h (by omega))
    have q1 : IntKind.i64.wrap ((n : Int) - 2) = (n : Int) - 2 := by rw [IntKind.wrap_i64]; omega
    obtain ⟨m, hm⟩ : ∃ m, n - 2 = m := ⟨_, rfl⟩
    rw [hm] at FN
    have hmax : max ((n : Int) - 2) 0 = (m : Int) := by omega
    go_enter Tryd.func6, Tryd.ntmps6
    go_wp2_with fail
    (with_reducible refine (FN.out _ RK.out).mono ?_); rintro e w1 ⟨hb, a, c', rfl, hr1, hc1⟩
    replace HB := Lib.hid (HB.out.trans (hb.mono HB.out.size))
    replace HT := Lib.hid (HT.out.keep hb)
    replace RK := Lib.hid (RK.out.keep hb)
    have RF := Lib.hid hr1
    clear hb hr1 FN
    go_wp2_with fail
    go_loopw [4] (fun x wr => ∃ k : Nat, x = .int .i64 k ∧ k ≤ m ∧ Tab wr ∧ RowK wr A n 3 F ∧ RowK wr a m 9 (fanF F) ∧ Below w.heap.size w wr) (fun x _ => m - (intOf x).toNat)
    case atStart => exact ⟨0, rfl, Nat.zero_le _, HT.out, RK.out, RF.out, HB.out⟩
    case round =>
      clear HB HT RK RF
      obtain ⟨i, rfl, hi, hT, hK, hF, hB⟩ := hrel
      have HB := Lib.hid hB
      have HT := Lib.hid hT
      have RK := Lib.hid hK
      have RF := Lib.hid hF
      clear hB hT hK hF
      by_cases hlt : i < m
      · obtain ⟨k1, hk1⟩ : ∃ k, i + 1 = k := ⟨_, rfl⟩
        obtain ⟨b1, o1, rfl, hl1, hc⟩ := RF.out.at hlt
        obtain ⟨b2, o2, rfl, hl2, hd⟩ := RK.out.at (i := 0) (by omega)
        have i0 : (0 : Int) ≤ (i : Int) := by omega
        have i1 : (i : Int) < m := by omega
        have k0 : (0 : Int) ≤ (k1 : Int) := by omega
        have k2 : (k1 : Int) < n := by omega
        have n0 : (0 : Int) < n := by omega
        have n00 : 0 < n := by omega
        have q2 : IntKind.i64.wrap ((i : Int) + 1) = (k1 : Int) := by rw [IntKind.wrap_i64]; omega
        have FE : ∀ q, q < 3 → fanF F i q = F 0 q ∧ fanF F i (3 + q) = F k1 q := by
          intro q hq
          refine ⟨if_pos hq, ?_⟩
          unfold fanF
          rw [if_neg (by omega), if_pos (by omega), hk1, show 3 + q - 3 = q from by omega]
        have c0 := hc i hlt 0 (by decide)
        have c1 := hc i hlt 1 (by decide)
        have c2 := hc i hlt 2 (by decide)
        have c3 := hc i hlt 3 (by decide)
        have c4 := hc i hlt 4 (by decide)
        have c5 := hc i hlt 5 (by decide)
        have d0 := hd 0 (by omega) 0 (by decide)
        have e0 := hd k1 (by omega) 0 (by decide)
        have d1 := hd 0 (by omega) 1 (by decide)
        have e1 := hd k1 (by omega) 1 (by decide)
        have d2 := hd 0 (by omega) 2 (by decide)
        have e2 := hd k1 (by omega) 2 (by decide)
        rw [(FE 0 (by decide)).1] at c0
        rw [(FE 1 (by decide)).1] at c1
        rw [(FE 2 (by decide)).1] at c2
        rw [show (3 : Nat) = 3 + 0 from rfl, (FE 0 (by decide)).2] at c3
        rw [show (4 : Nat) = 3 + 1 from rfl, (FE 1 (by decide)).2] at c4
        rw [show (5 : Nat) = 3 + 2 from rfl, (FE 2 (by decide)).2] at c5
        replace c3 : wr.cell? ⟨b1, o1 + (i * 9 + 3), none⟩ = some (.int .i64 (F k1 0)) := c3
        replace c4 : wr.cell? ⟨b1, o1 + (i * 9 + 4), none⟩ = some (.int .i64 (F k1 1)) := c4
        replace c5 : wr.cell? ⟨b1, o1 + (i * 9 + 5), none⟩ = some (.int .i64 (F k1 2)) := c5
        rw [Nat.add_zero] at c0 e0
        rw [← Nat.add_assoc] at c1 c2 c3 c4 c5 e1 e2
        rw [Nat.zero_mul, Nat.zero_add] at d0 d1 d2
        rw [Nat.add_zero] at d0
        have HC := Lib.hid hc
        clear hc FE hd
        by_cases hp : i = 0
        · have g0 : decide ((0 : Int) < (i : Int)) = false := decide_eq_false (by omega)
          have g1 : ¬ (0 : Int) < (i : Int) := by omega
          have g2 : ¬ 0 < i := by omega
          clear hp
          obtain ⟨x0, hx0⟩ : ∃ x, F 0 0 = x := ⟨_, rfl⟩
          obtain ⟨x1, hx1⟩ : ∃ x, F 0 1 = x := ⟨_, rfl⟩
          obtain ⟨x2, hx2⟩ : ∃ x, F 0 2 = x := ⟨_, rfl⟩
          obtain ⟨y0, hy0⟩ : ∃ x, F k1 0 = x := ⟨_, rfl⟩
          obtain ⟨y1, hy1⟩ : ∃ x, F k1 1 = x := ⟨_, rfl⟩
          obtain ⟨y2, hy2⟩ : ∃ x, F k1 2 = x := ⟨_, rfl⟩
          rw [hx0] at c0 d0
          rw [hx1] at c1 d1
          rw [hx2] at c2 d2
          rw [hy0] at c3 e0
          rw [hy1] at c4 e1
          rw [hy2] at c5 e2
          clear hx0 hx1 hx2 hy0 hy1 hy2
          go_wp2_with fail
          go_quiet (fail)
          go_wp2_with fail
          go_roundw
          case rel => exact ⟨i + 1, by go_num, hlt, HT.out.keep (below_drewN (Below.refl _ _) _), RK.out.keep (below_drewN (Below.refl _ _) _), RF.out.keep (below_drewN (Below.refl _ _) _), below_drewN HB.out _⟩
          case measure => simp [intOf]; omega
        · have g0 : decide ((0 : Int) < (i : Int)) = true := decide_eq_true (by omega)
          have g1 : (0 : Int) < (i : Int) := by omega
          have g2 : 0 < i := by omega
          obtain ⟨j, hj⟩ : ∃ j, i - 1 = j := ⟨_, rfl⟩
          have q3 : IntKind.i64.wrap ((i : Int) - 1) = (j : Int) := by rw [IntKind.wrap_i64]; omega
          have j0 : (0 : Int) ≤ (j : Int) := by omega
          have j1 : (j : Int) < m := by omega
          have GE : ∀ q, q < 3 → fanF F j (6 + q) = F k1 q := by
            intro q hq
            unfold fanF
            rw [if_neg (by omega), if_neg (by omega), show 6 + q - 6 = q from by omega, show j + 2 = k1 from by omega]
          have h0 := HC.out j (by omega) (6 + 0) (by decide)
          have h1 := HC.out j (by omega) (6 + 1) (by decide)
          have h2 := HC.out j (by omega) (6 + 2) (by decide)
          rw [GE 0 (by decide)] at h0
          rw [GE 1 (by decide)] at h1
          rw [GE 2 (by decide)] at h2
          replace h0 : wr.cell? ⟨b1, o1 + (j * 9 + 6), none⟩ = some (.int .i64 (F k1 0)) := h0
          replace h1 : wr.cell? ⟨b1, o1 + (j * 9 + 7), none⟩ = some (.int .i64 (F k1 1)) := h1
          replace h2 : wr.cell? ⟨b1, o1 + (j * 9 + 8), none⟩ = some (.int .i64 (F k1 2)) := h2
          rw [← Nat.add_assoc] at h0 h1 h2
          clear hp hj GE
          obtain ⟨x0, hx0⟩ : ∃ x, F 0 0 = x := ⟨_, rfl⟩
          obtain ⟨x1, hx1⟩ : ∃ x, F 0 1 = x := ⟨_, rfl⟩
          obtain ⟨x2, hx2⟩ : ∃ x, F 0 2 = x := ⟨_, rfl⟩
          obtain ⟨y0, hy0⟩ : ∃ x, F k1 0 = x := ⟨_, rfl⟩
          obtain ⟨y1, hy1⟩ : ∃ x, F k1 1 = x := ⟨_, rfl⟩
          obtain ⟨y2, hy2⟩ : ∃ x, F k1 2 = x := ⟨_, rfl⟩
          rw [hx0] at c0 d0
          rw [hx1] at c1 d1
          rw [hx2] at c2 d2
          rw [hy0] at c3 e0 h0
          rw [hy1] at c4 e1 h1
          rw [hy2] at c5 e2 h2
          clear hx0 hx1 hx2 hy0 hy1 hy2
          go_wp2_with fail
          go_quiet (fail)
          go_wp2_with fail
          go_roundw
          case rel => exact ⟨i + 1, by go_num, hlt, HT.out.keep (below_drewN (Below.refl _ _) _), RK.out.keep (below_drewN (Below.refl _ _) _), RF.out.keep (below_drewN (Below.refl _ _) _), below_drewN HB.out _⟩
          case measure => simp [intOf]; omega
      · obtain rfl : i = m := by omega
        have ST := Lib.hid (pastC_stays wr)
        have ne : Nonempty (Of (PastC wr)) := ⟨⟨wr, Below.refl _ _⟩⟩
        have KT := Lib.hid (fun d : Of (PastC wr) => FD.out d.world (HT.out.keep d.holds))
        by_cases hz : i = 0
        · have z0 : ((i : Int) == 0) = true := by rw [beq_iff_eq]; omega
          clear hz
          go_upto_region 11 with fail
          refine wp_region_class (S := PastC wr) (by kernel_rfl) (by kernel_rfl) (Below.refl _ _).drew ?_
          repeat (go_big_quiet_step (first | (go_at_call 17; exact class_call ST.out _ (KT.out _))))
          refine wpQuiet_nil ?_
          rintro _ ⟨d, rfl⟩
          have HD := Lib.hid (HB.out.trans ((show Below wr.heap.size wr d.world from d.holds).mono HB.out.size))
          go_wp2_with fail
          go_ret
          exact ⟨rfl, HD.out⟩
        · have z0 : ((i : Int) == 0) = false := by rw [beq_eq_false_iff_ne]; omega
          obtain ⟨j, hj⟩ : ∃ j, i - 1 = j := ⟨_, rfl⟩
          obtain ⟨k1, hk1⟩ : ∃ k, n - 1 = k := ⟨_, rfl⟩
          have q3 : IntKind.i64.wrap ((i : Int) - 1) = (j : Int) := by rw [IntKind.wrap_i64]; omega
          have q4 : IntKind.i64.wrap ((n : Int) - 1) = (k1 : Int) := by rw [IntKind.wrap_i64]; omega
          have j0 : (0 : Int) ≤ (j : Int) := by omega
          have j1 : (j : Int) < i := by omega
          have k0 : (0 : Int) ≤ (k1 : Int) := by omega
          have k2 : (k1 : Int) < n := by omega
          have GE : ∀ q, q < 3 → fanF F j (6 + q) = F k1 q := by
            intro q hq
            unfold fanF
            rw [if_neg (by omega), if_neg (by omega), show 6 + q - 6 = q from by omega, show j + 2 = k1 from by omega]
          obtain ⟨b1, o1, rfl, hl1, hc⟩ := RF.out.at (i := j) (by omega)
          obtain ⟨b2, o2, rfl, hl2, hd⟩ := RK.out.at (i := k1) (by omega)
          have h0 := hc j (by omega) (6 + 0) (by decide)
          have h1 := hc j (by omega) (6 + 1) (by decide)
          have h2 := hc j (by omega) (6 + 2) (by decide)
          have e0 := hd k1 (by omega) 0 (by decide)
          have e1 := hd k1 (by omega) 1 (by decide)
          have e2 := hd k1 (by omega) 2 (by decide)
          rw [GE 0 (by decide)] at h0
          rw [GE 1 (by decide)] at h1
          rw [GE 2 (by decide)] at h2
          replace h0 : wr.cell? ⟨b1, o1 + (j * 9 + 6), none⟩ = some (.int .i64 (F k1 0)) := h0
          replace h1 : wr.cell? ⟨b1, o1 + (j * 9 + 7), none⟩ = some (.int .i64 (F k1 1)) := h1
          replace h2 : wr.cell? ⟨b1, o1 + (j * 9 + 8), none⟩ = some (.int .i64 (F k1 2)) := h2
          rw [← Nat.add_assoc] at h0 h1 h2 e1 e2
          rw [Nat.add_zero] at e0
          clear hz hj hk1 GE hc hd
          obtain ⟨y0, hy0⟩ : ∃ x, F k1 0 = x := ⟨_, rfl⟩
          obtain ⟨y1, hy1⟩ : ∃ x, F k1 1 = x := ⟨_, rfl⟩
          obtain ⟨y2, hy2⟩ : ∃ x, F k1 2 = x := ⟨_, rfl⟩
          rw [hy0] at e0 h0
          rw [hy1] at e1 h1
          rw [hy2] at e2 h2
          clear hy0 hy1 hy2
          have a0 : ∀ d : Of (PastC wr), d.world.cell? ⟨b1, o1 + j * 9 + 6, none⟩ = some (.int .i64 y0) := fun d => keepc d.holds h0
          have a1 : ∀ d : Of (PastC wr), d.world.cell? ⟨b1, o1 + j * 9 + 7, none⟩ = some (.int .i64 y1) := fun d => keepc d.holds h1
          have a2 : ∀ d : Of (PastC wr), d.world.cell? ⟨b1, o1 + j * 9 + 8, none⟩ = some (.int .i64 y2) := fun d => keepc d.holds h2
          have a3 : ∀ d : Of (PastC wr), d.world.cell? ⟨b2, o2 + k1 * 3, none⟩ = some (.int .i64 y0) := fun d => keepc d.holds e0
          have a4 : ∀ d : Of (PastC wr), d.world.cell? ⟨b2, o2 + k1 * 3 + 1, none⟩ = some (.int .i64 y1) := fun d => keepc d.holds e1
          have a5 : ∀ d : Of (PastC wr), d.world.cell? ⟨b2, o2 + k1 * 3 + 2, none⟩ = some (.int .i64 y2) := fun d => keepc d.holds e2
          clear h0 h1 h2 e0 e1 e2
          go_upto_region 11 with fail
          refine wp_region_class (S := PastC wr) (by kernel_rfl) (by kernel_rfl) (Below.refl _ _).drew ?_
          repeat (go_big_quiet_step (first | (go_at_call 17; exact class_call ST.out _ (KT.out _))))
          refine wpQuiet_nil ?_
          rintro _ ⟨d, rfl⟩
          have HD := Lib.hid (HB.out.trans ((show Below wr.heap.size wr d.world from d.holds).mono HB.out.size))
          clear a0 a1 a2 a3 a4 a5 ne ST
          go_wp2_with fail
          go_ret
          exact ⟨rfl, HD.out⟩
end Go.Proofs.YtlpfijdjkaijeaaDoor
