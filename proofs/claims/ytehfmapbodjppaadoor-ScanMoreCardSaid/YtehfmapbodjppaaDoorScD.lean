/-
  Package scan: steps, Parse.
-/
import Derived.Test.YtehfmapbodjppaaDoorScC
import Derived.Test.YtehfmapbodjppaaDoorScDiv17
import Derived.Test.YtehfmapbodjppaaDoorScDiv18
import Derived.Test.YtehfmapbodjppaaDoorScDiv19
namespace Go.Proofs.YtehfmapbodjppaaDoor
open Go.RowKit

/-- The library's Div64 of 256 v by a power of ten above v. -/
theorem div64_any (v k : Nat) (w : World) (hk : k ≤ 19) (hv : v < 10 ^ k) :
    Calls Tryd.prog 33 #[.int .u64 ((v * 256 / 18446744073709551616 : Nat) : Int), .int .u64 ((v * 256 % 18446744073709551616 : Nat) : Int), .int .u64 ((10 ^ k : Nat) : Int)] w fun e w' => e = .returned (.tuple #[.int .u64 ((256 * v / 10 ^ k : Nat) : Int), .int .u64 ((256 * v % 10 ^ k : Nat) : Int)]) ∧ Below w.heap.size w w' := by
  have hT : 0 < 10 ^ k := Nat.pow_pos (by decide)
  have hT2 : 10 ^ k ≤ 10000000000000000000 := by
    have p : (10 : Nat) ^ 19 = 10000000000000000000 := by decide +kernel
    rw [← p]; exact Nat.pow_le_pow_right (by decide) hk
  by_cases h0 : v * 256 / 18446744073709551616 = 0
  · have hm : v * 256 % 18446744073709551616 = v * 256 := Nat.mod_eq_of_lt (by omega)
    rw [h0, hm, Nat.mul_comm 256 v]
    exact div64_low (v * 256) (10 ^ k) w hT (by omega) (by omega)
  · have hk17 : 17 ≤ k := by
      rcases Nat.lt_or_ge k 17 with q | q
      · have p : (10 : Nat) ^ 16 = 10000000000000000 := by decide +kernel
        have : 10 ^ k ≤ 10000000000000000 := by rw [← p]; exact Nat.pow_le_pow_right (by decide) (by omega)
        omega
      · exact q
    have hi : v * 256 / 18446744073709551616 < 256 := by omega
    have hs : ((v * 256 / 18446744073709551616 : Nat) : Int) * 18446744073709551616 + ((v * 256 % 18446744073709551616 : Nat) : Int) = ((256 * v : Nat) : Int) := by omega
    rcases show k = 17 ∨ k = 18 ∨ k = 19 by omega with rfl | rfl | rfl
    · have c := div64_17 (v * 256 / 18446744073709551616) (v * 256 % 18446744073709551616) w (by omega) hi (by omega)
      rw [hs] at c
      have p : (10 : Nat) ^ 17 = 100000000000000000 := by decide +kernel
      rw [p]
      have e1 : (((256 * v : Nat) : Int) / 100000000000000000) = ((256 * v / 100000000000000000 : Nat) : Int) := by omega
      have e2 : (((256 * v : Nat) : Int) % 100000000000000000) = ((256 * v % 100000000000000000 : Nat) : Int) := by omega
      rw [e1, e2] at c
      exact c
    · have c := div64_18 (v * 256 / 18446744073709551616) (v * 256 % 18446744073709551616) w (by omega) hi (by omega)
      rw [hs] at c
      have p : (10 : Nat) ^ 18 = 1000000000000000000 := by decide +kernel
      rw [p]
      have e1 : (((256 * v : Nat) : Int) / 1000000000000000000) = ((256 * v / 1000000000000000000 : Nat) : Int) := by omega
      have e2 : (((256 * v : Nat) : Int) % 1000000000000000000) = ((256 * v % 1000000000000000000 : Nat) : Int) := by omega
      rw [e1, e2] at c
      exact c
    · have c := div64_19 (v * 256 / 18446744073709551616) (v * 256 % 18446744073709551616) w (by omega) hi (by omega)
      rw [hs] at c
      have p : (10 : Nat) ^ 19 = 10000000000000000000 := by decide +kernel
      rw [p]
      have e1 : (((256 * v : Nat) : Int) / 10000000000000000000) = ((256 * v / 10000000000000000000 : Nat) : Int) := by omega
      have e2 : (((256 * v : Nat) : Int) % 10000000000000000000) = ((256 * v % 10000000000000000000 : Nat) : Int) := by omega
      rw [e1, e2] at c
      exact c
/-- What a decimal's steps are. -/
def stI (bl : Bool) (c q r : Nat) : Int := if bl = true then -((c * 256 + q + (if r = 0 then 0 else 1) : Nat) : Int) else ((c * 256 + q : Nat) : Int)

set_option maxRecDepth 100000 in
set_option maxHeartbeats 2000000 in
theorem steps_any (bl pt : Bool) (A B : List UInt8) (w : World) (hB : B.length ≤ 19) (hd : ∀ b ∈ B, isD b = true) :
    Calls Tryd.prog 20 #[.agg (decC bl pt A B)] w fun e w' => e = .returned (.int .i64 (stI bl (capD A) (256 * valD B / 10 ^ B.length) (256 * valD B % 10 ^ B.length))) ∧ Below w.heap.size w w' := by
  have hv := valD_lt B hd
  have hc : capD A ≤ 1048576 := by rw [capD_eq]; exact Nat.min_le_right _ _
  have hT : 0 < 10 ^ B.length := Nat.pow_pos (by decide)
  have hT2 : 10 ^ B.length ≤ 10000000000000000000 := by
    have p : (10 : Nat) ^ 19 = 10000000000000000000 := by decide +kernel
    rw [← p]; exact Nat.pow_le_pow_right (by decide) hB
  have hq : 256 * valD B / 10 ^ B.length < 256 := (Nat.div_lt_iff_lt_mul hT).2 (by omega)
  have C1 := Lib.hid (fun W => mul64_any (valD B) 256 W (by omega) (by decide))
  rw [show ((256 : Nat) : Int) = 256 from rfl] at C1
  have C2 := Lib.hid (fun W => div64_any (valD B) B.length W hB hv)
  unfold decC
  obtain ⟨n, hn⟩ : ∃ n : Int, ((A.length + B.length : Nat) : Int) = n := ⟨_, rfl⟩
  obtain ⟨t, ht⟩ : ∃ t : Int, ((10 ^ B.length : Nat) : Int) = t := ⟨_, rfl⟩
  obtain ⟨q, hq2⟩ : ∃ q : Nat, 256 * valD B / 10 ^ B.length = q := ⟨_, rfl⟩
  obtain ⟨r, hr⟩ : ∃ r : Nat, 256 * valD B % 10 ^ B.length = r := ⟨_, rfl⟩
  have hr2 : r < 10 ^ B.length := hr ▸ Nat.mod_lt _ hT
  rw [hq2, hr, ht] at C2
  rw [hn, ht, hq2, hr]
  rw [hq2] at hq
  obtain ⟨v, hv2⟩ : ∃ v : Int, ((valD B : Nat) : Int) = v := ⟨_, rfl⟩
  obtain ⟨c, hc2⟩ : ∃ c : Nat, capD A = c := ⟨_, rfl⟩
  rw [hc2] at hc ⊢
  obtain ⟨m1, hm1⟩ : ∃ m : Int, ((valD B * 256 / 18446744073709551616 : Nat) : Int) = m := ⟨_, rfl⟩
  obtain ⟨m2, hm2⟩ : ∃ m : Int, ((valD B * 256 % 18446744073709551616 : Nat) : Int) = m := ⟨_, rfl⟩
  rw [hm1, hm2] at C1 C2
  rw [hv2] at C1 ⊢
  clear hm1 hm2 hv2 hc2 hn ht hr hq2 hv hT hr2 hT2 hB hd
  have w1 : IntKind.u64.wrap ((c : Int) * 256) = (c : Int) * 256 := by rw [IntKind.wrap_u64]; omega
  have w2 : IntKind.u64.wrap ((c : Int) * 256 + q) = (c : Int) * 256 + q := by rw [IntKind.wrap_u64]; omega
  have w3 : IntKind.i64.wrap ((c : Int) * 256 + q) = (c : Int) * 256 + q := by rw [IntKind.wrap_i64]; omega
  have w4 : IntKind.i64.wrap ((c : Int) * 256 + q + 1) = (c : Int) * 256 + q + 1 := by rw [IntKind.wrap_i64]; omega
  have w5 : IntKind.i64.wrap (-((c : Int) * 256 + q)) = -((c : Int) * 256 + q) := by rw [IntKind.wrap_i64]; omega
  have w6 : IntKind.i64.wrap (-((c : Int) * 256 + q + 1)) = -((c : Int) * 256 + q + 1) := by rw [IntKind.wrap_i64]; omega
  have HB := Lib.hid (Below.refl w.heap.size w)
  have hc' := Lib.hid hc
  have hq' := Lib.hid hq
  clear hc hq
  cases bl with
  | false =>
    go_enter Tryd.func20, Tryd.ntmps20
    go_upto_region 1 with fail
    have hba := below_new1 w (.cells #[.bool false, .bool pt, .int .i64 n, .int .u64 c, .int .u64 v, .int .u64 t] 42)
    have za : (w.alloc (.cells #[.bool false, .bool pt, .int .i64 n, .int .u64 c, .int .u64 v, .int .u64 t] 42)).heap.size = w.heap.size + 1 := by simp
    have HB := Lib.hid hba
    have ka := Lib.hid (Lok.new w 42 #[.bool false, .bool pt, .int .i64 n, .int .u64 c, .int .u64 v, .int .u64 t])
    clear hba
    generalize w.alloc (.cells #[.bool false, .bool pt, .int .i64 n, .int .u64 c, .int .u64 v, .int .u64 t] 42) = Va at *
    have y4 := ka.out.cell (i := 4) rfl
    go_wp2_with fail
    (((with_reducible refine (C1.out _).mono ?_); rintro e w1 ⟨rfl, hb1⟩); replace HB := Lib.hid (HB.out.trans (hb1.mono HB.out.size)); replace ka := Lib.hid (ka.out.keep hb1); clear hb1)
    have y3 := ka.out.cell (i := 3) rfl
    have y5 := ka.out.cell (i := 5) rfl
    go_wp2_with fail
    clear y3 y4 y5
    (((with_reducible refine (C2.out _).mono ?_); rintro e w2 ⟨rfl, hb2⟩); replace HB := Lib.hid (HB.out.trans (hb2.mono HB.out.size)); replace ka := Lib.hid (ka.out.keep hb2); clear hb2)
    have y3 := ka.out.cell (i := 3) rfl
    have y0 := ka.out.cell (i := 0) rfl
    go_wp2_with fail
    go_ret
    exact ⟨rfl, HB.out⟩
  | true =>
    by_cases hr : r = 0
    · subst hr
      go_enter Tryd.func20, Tryd.ntmps20
      go_upto_region 1 with fail
      have hba := below_new1 w (.cells #[.bool true, .bool pt, .int .i64 n, .int .u64 c, .int .u64 v, .int .u64 t] 42)
      have za : (w.alloc (.cells #[.bool true, .bool pt, .int .i64 n, .int .u64 c, .int .u64 v, .int .u64 t] 42)).heap.size = w.heap.size + 1 := by simp
      have HB := Lib.hid hba
      have ka := Lib.hid (Lok.new w 42 #[.bool true, .bool pt, .int .i64 n, .int .u64 c, .int .u64 v, .int .u64 t])
      clear hba
      generalize w.alloc (.cells #[.bool true, .bool pt, .int .i64 n, .int .u64 c, .int .u64 v, .int .u64 t] 42) = Va at *
      have y4 := ka.out.cell (i := 4) rfl
      go_wp2_with fail
      (((with_reducible refine (C1.out _).mono ?_); rintro e w1 ⟨rfl, hb1⟩); replace HB := Lib.hid (HB.out.trans (hb1.mono HB.out.size)); replace ka := Lib.hid (ka.out.keep hb1); clear hb1)
      have y3 := ka.out.cell (i := 3) rfl
      have y5 := ka.out.cell (i := 5) rfl
      go_wp2_with fail
      clear y3 y4 y5
      (((with_reducible refine (C2.out _).mono ?_); rintro e w2 ⟨rfl, hb2⟩); replace HB := Lib.hid (HB.out.trans (hb2.mono HB.out.size)); replace ka := Lib.hid (ka.out.keep hb2); clear hb2)
      have y3 := ka.out.cell (i := 3) rfl
      have y0 := ka.out.cell (i := 0) rfl
      go_wp2_with fail
      go_ret
      exact ⟨by unfold stI; rw [if_pos rfl, if_pos rfl]; exact ret_int (by omega), HB.out⟩
    · have hr1 : (0 : Int) < (r : Int) := by omega
      have hr3 : decide ((0 : Int) < (r : Int)) = true := decide_eq_true hr1
      have hr4 : decide (0 < r) = true := decide_eq_true (by omega)
      go_enter Tryd.func20, Tryd.ntmps20
      go_upto_region 1 with fail
      have hba := below_new1 w (.cells #[.bool true, .bool pt, .int .i64 n, .int .u64 c, .int .u64 v, .int .u64 t] 42)
      have za : (w.alloc (.cells #[.bool true, .bool pt, .int .i64 n, .int .u64 c, .int .u64 v, .int .u64 t] 42)).heap.size = w.heap.size + 1 := by simp
      have HB := Lib.hid hba
      have ka := Lib.hid (Lok.new w 42 #[.bool true, .bool pt, .int .i64 n, .int .u64 c, .int .u64 v, .int .u64 t])
      clear hba
      generalize w.alloc (.cells #[.bool true, .bool pt, .int .i64 n, .int .u64 c, .int .u64 v, .int .u64 t] 42) = Va at *
      have y4 := ka.out.cell (i := 4) rfl
      go_wp2_with fail
      (((with_reducible refine (C1.out _).mono ?_); rintro e w1 ⟨rfl, hb1⟩); replace HB := Lib.hid (HB.out.trans (hb1.mono HB.out.size)); replace ka := Lib.hid (ka.out.keep hb1); clear hb1)
      have y3 := ka.out.cell (i := 3) rfl
      have y5 := ka.out.cell (i := 5) rfl
      go_wp2_with fail
      clear y3 y4 y5
      (((with_reducible refine (C2.out _).mono ?_); rintro e w2 ⟨rfl, hb2⟩); replace HB := Lib.hid (HB.out.trans (hb2.mono HB.out.size)); replace ka := Lib.hid (ka.out.keep hb2); clear hb2)
      have y3 := ka.out.cell (i := 3) rfl
      have y0 := ka.out.cell (i := 0) rfl
      go_wp2_with fail
      go_ret
      exact ⟨by unfold stI; rw [if_pos rfl, if_neg hr]; exact ret_int (by omega), HB.out⟩

theorem inR_steps (bl : Bool) (A B : List UInt8) : inR (stI bl (capD A) (256 * valD B / 10 ^ B.length) (256 * valD B % 10 ^ B.length)) = inR (stepsS bl A B) := (steps_cap bl A B).symm
/-- What Parse answers. -/
def retP (p : Int × Int) : Ending := .returned (.tuple #[.int .i64 p.1, .int .i64 p.2])

set_option maxRecDepth 100000 in
set_option maxHeartbeats 2000000 in
theorem parse_any (s : ByteArray) (w : World) :
    Calls Tryd.prog 9 #[.string s] w fun e w' => e = retP (parseS s.data.toList) ∧ Below w.heap.size w w' := by
  have HB := Lib.hid (Below.refl w.heap.size w)
  rw [parse_start]
  have hl : s.data.toList.length = s.size := by simp
  rw [hl]
  by_cases h : 20 < s.size
  · rw [if_pos h]
    have C := Lib.hid (fun W => read_long s W h)
    unfold zeroD at C
    clear h hl
    go_enter Tryd.func9, Tryd.ntmps9
    go_wp2_with fail
    ((with_reducible refine (C.out _).mono ?_); rintro e w1 ⟨rfl, hb1⟩)
    replace HB := Lib.hid (HB.out.trans (hb1.mono HB.out.size))
    clear hb1
    go_wp2_with fail
    have hb1 := below_new1 w1 (.cells #[.bool false, .bool false, .int .i64 0, .int .u64 0, .int .u64 0, .int .u64 0] 42)
    replace HB := Lib.hid (HB.out.trans (hb1.mono HB.out.size))
    have k1 := Lib.hid (Lok.new w1 42 #[.bool false, .bool false, .int .i64 0, .int .u64 0, .int .u64 0, .int .u64 0])
    clear hb1
    generalize w1.alloc (.cells #[.bool false, .bool false, .int .i64 0, .int .u64 0, .int .u64 0, .int .u64 0] 42) = V1 at *
    generalize w1.heap.size = g1 at *
    go_ret2
    exact ⟨rfl, HB.out⟩
  · rw [if_neg h]
    have C := Lib.hid (fun W => read_any s W (by omega))
    clear h hl
    go_enter Tryd.func9, Tryd.ntmps9
    go_wp2_with fail
    (with_reducible refine (C.out _).mono ?_); rintro e w1 ⟨hr, hb1⟩
    replace HB := Lib.hid (HB.out.trans hb1)
    clear hb1
    rcases hr with ⟨hs, he⟩ | ⟨bl, pt, A, B, hs, hl1, hl2, hd, he⟩
    · unfold zeroD at he
      subst he
      replace hs := Lib.hid hs
      go_wp2_with fail
      have hbd := below_new1 w1 (.cells #[.bool false, .bool false, .int .i64 0, .int .u64 0, .int .u64 0, .int .u64 0] 42)
      have zd : (w1.alloc (.cells #[.bool false, .bool false, .int .i64 0, .int .u64 0, .int .u64 0, .int .u64 0] 42)).heap.size = w1.heap.size + 1 := by simp
      replace HB := Lib.hid (HB.out.trans (hbd.mono HB.out.size))
      have kd := Lib.hid (Lok.new w1 42 #[.bool false, .bool false, .int .i64 0, .int .u64 0, .int .u64 0, .int .u64 0])
      clear hbd
      generalize w1.alloc (.cells #[.bool false, .bool false, .int .i64 0, .int .u64 0, .int .u64 0, .int .u64 0] 42) = Vd at *
      go_ret2
      exact ⟨by rw [hs.out]; rfl, HB.out⟩
    · have C2 := Lib.hid (fun W => steps_any bl pt A B W hl2 hd)
      have E := Lib.hid (inR_steps bl A B)
      obtain ⟨z, hz⟩ : ∃ z, stI bl (capD A) (256 * valD B / 10 ^ B.length) (256 * valD B % 10 ^ B.length) = z := ⟨_, rfl⟩
      rw [hz] at C2 E
      clear hz
      replace hs := Lib.hid hs
      have C3 := Lib.hid (fun W => inRange_any z W)
      obtain ⟨n, hn⟩ : ∃ n : Int, ((A.length + B.length : Nat) : Int) = n := ⟨_, rfl⟩
      obtain ⟨c, hc⟩ : ∃ c : Int, ((capD A : Nat) : Int) = c := ⟨_, rfl⟩
      obtain ⟨v, hv⟩ : ∃ v : Int, ((valD B : Nat) : Int) = v := ⟨_, rfl⟩
      obtain ⟨t, ht⟩ : ∃ t : Int, ((10 ^ B.length : Nat) : Int) = t := ⟨_, rfl⟩
      have eD : decC bl pt A B = #[.bool bl, .bool pt, .int .i64 n, .int .u64 c, .int .u64 v, .int .u64 t] := by unfold decC; rw [hn, hc, hv, ht]
      clear hn hc hv ht hl1 hl2 hd
      rw [eD] at he C2
      clear eD
      by_cases h0 : A.length + B.length = 0
      · rw [decide_eq_false (show ¬ 0 < A.length + B.length by omega)] at he
        subst he
        go_wp2_with fail
        have hbd := below_new1 w1 (.cells #[.bool bl, .bool pt, .int .i64 n, .int .u64 c, .int .u64 v, .int .u64 t] 42)
        have zd : (w1.alloc (.cells #[.bool bl, .bool pt, .int .i64 n, .int .u64 c, .int .u64 v, .int .u64 t] 42)).heap.size = w1.heap.size + 1 := by simp
        replace HB := Lib.hid (HB.out.trans (hbd.mono HB.out.size))
        have kd := Lib.hid (Lok.new w1 42 #[.bool bl, .bool pt, .int .i64 n, .int .u64 c, .int .u64 v, .int .u64 t])
        clear hbd
        generalize w1.alloc (.cells #[.bool bl, .bool pt, .int .i64 n, .int .u64 c, .int .u64 v, .int .u64 t] 42) = Vd at *
        go_ret2
        exact ⟨by rw [hs.out]; show _ = retP (if A.length + B.length = 0 then _ else _); rw [if_pos h0]; rfl, HB.out⟩
      · rw [decide_eq_true (show 0 < A.length + B.length by omega)] at he
        subst he
        have fin : Hid (∀ p, inR z = p → retP p = retP (ansO (startS s.data.toList))) := Lib.hid (fun p hp => by
          rw [hs.out, ← hp, E.out]; show _ = retP (if A.length + B.length = 0 then _ else _); rw [if_neg h0])
        clear h0
        by_cases hz : -1048576 ≤ z ∧ z ≤ 1048576
        · rw [decide_eq_true hz] at C3
          have f := Lib.hid (fin.out (z, 0) (by unfold inR; rw [if_pos hz]))
          clear hz fin E
          go_upto_region 2 with fail
          have hbd := below_new1 w1 (.cells #[.bool bl, .bool pt, .int .i64 n, .int .u64 c, .int .u64 v, .int .u64 t] 42)
          have zd : (w1.alloc (.cells #[.bool bl, .bool pt, .int .i64 n, .int .u64 c, .int .u64 v, .int .u64 t] 42)).heap.size = w1.heap.size + 1 := by simp
          replace HB := Lib.hid (HB.out.trans (hbd.mono HB.out.size))
          have kd := Lib.hid (Lok.new w1 42 #[.bool bl, .bool pt, .int .i64 n, .int .u64 c, .int .u64 v, .int .u64 t])
          clear hbd
          generalize w1.alloc (.cells #[.bool bl, .bool pt, .int .i64 n, .int .u64 c, .int .u64 v, .int .u64 t] 42) = Vd at *
          have y0 := kd.out.cell (i := 0) rfl
          have y1 := kd.out.cell (i := 1) rfl
          have y2 := kd.out.cell (i := 2) rfl
          have y3 := kd.out.cell (i := 3) rfl
          have y4 := kd.out.cell (i := 4) rfl
          have y5 := kd.out.cell (i := 5) rfl
          go_wp2_with fail
          (((with_reducible refine (C2.out _).mono ?_); rintro e w2 ⟨rfl, hb2⟩); replace HB := Lib.hid (HB.out.trans (hb2.mono HB.out.size)); clear hb2)
          go_wp2_with fail
          (((with_reducible refine (C3.out _).mono ?_); rintro e w3 ⟨rfl, hb3⟩); replace HB := Lib.hid (HB.out.trans (hb3.mono HB.out.size)); clear hb3)
          go_wp2_with fail
          go_ret2
          exact ⟨f.out, HB.out⟩
        · rw [decide_eq_false hz] at C3
          have f := Lib.hid (fin.out (0, 5) (by unfold inR; rw [if_neg hz]))
          clear hz fin E
          go_upto_region 2 with fail
          have hbd := below_new1 w1 (.cells #[.bool bl, .bool pt, .int .i64 n, .int .u64 c, .int .u64 v, .int .u64 t] 42)
          have zd : (w1.alloc (.cells #[.bool bl, .bool pt, .int .i64 n, .int .u64 c, .int .u64 v, .int .u64 t] 42)).heap.size = w1.heap.size + 1 := by simp
          replace HB := Lib.hid (HB.out.trans (hbd.mono HB.out.size))
          have kd := Lib.hid (Lok.new w1 42 #[.bool bl, .bool pt, .int .i64 n, .int .u64 c, .int .u64 v, .int .u64 t])
          clear hbd
          generalize w1.alloc (.cells #[.bool bl, .bool pt, .int .i64 n, .int .u64 c, .int .u64 v, .int .u64 t] 42) = Vd at *
          have y0 := kd.out.cell (i := 0) rfl
          have y1 := kd.out.cell (i := 1) rfl
          have y2 := kd.out.cell (i := 2) rfl
          have y3 := kd.out.cell (i := 3) rfl
          have y4 := kd.out.cell (i := 4) rfl
          have y5 := kd.out.cell (i := 5) rfl
          go_wp2_with fail
          (((with_reducible refine (C2.out _).mono ?_); rintro e w2 ⟨rfl, hb2⟩); replace HB := Lib.hid (HB.out.trans (hb2.mono HB.out.size)); clear hb2)
          go_wp2_with fail
          (((with_reducible refine (C3.out _).mono ?_); rintro e w3 ⟨rfl, hb3⟩); replace HB := Lib.hid (HB.out.trans (hb3.mono HB.out.size)); clear hb3)
          go_wp2_with fail
          go_ret2
          exact ⟨f.out, HB.out⟩
end Go.Proofs.YtehfmapbodjppaaDoor
