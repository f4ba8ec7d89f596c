/-
  Texts in one: WidePl, WdA, WdM.
-/
import Derived.Below
import Derived.Test.YtllamakemgogaaaGaA
import Derived.WalkKit
import Derived.WalkSpells
import Derived.WalkLawsBesides
import Derived.IntWalk
import Derived.BigQuiet
import Derived.Deep.QuietTactic
import Derived.Lib.Hide
/-
  Plain facts on whole numbers for package wide: no program in sight.
-/
namespace Go.Proofs.Ytllamakemgogaaa
theorem fd_unique (n d q r : Int) (hd : 1 ≤ d) (h : n = d * q + r) (h0 : 0 ≤ r) (h1 : r < d) : n / d = q ∧ n % d = r := by
  have := (Int.ediv_emod_unique (a := n) (b := d) (q := q) (r := r) (by omega)).2 ⟨by omega, h0, h1⟩
  exact this

theorem fd_neg (n d : Int) (hd : 1 ≤ d) (h : n.tmod d < 0) : n.tdiv d - 1 = n / d ∧ n.tmod d + d = n % d := by
  have e := Int.mul_tdiv_add_tmod n d
  have l := Int.lt_tmod_of_pos n (b := d) (by omega)
  have := fd_unique n d (n.tdiv d - 1) (n.tmod d + d) hd (by rw [Int.mul_sub]; omega) (by omega) (by omega)
  exact ⟨this.1.symm, this.2.symm⟩

theorem fd_pos (n d : Int) (hd : 1 ≤ d) (h : ¬ n.tmod d < 0) : n.tdiv d = n / d ∧ n.tmod d = n % d := by
  have e := Int.mul_tdiv_add_tmod n d
  have l := Int.tmod_lt_of_pos n (b := d) (by omega)
  have := fd_unique n d (n.tdiv d) (n.tmod d) hd (by omega) (by omega) (by omega)
  exact ⟨this.1.symm, this.2.symm⟩

theorem fd_bounds (n d : Int) (hd : 1 ≤ d) (h0 : -9223372036854775808 ≤ n) (h1 : n ≤ 9223372036854775807) : -9223372036854775808 ≤ n / d ∧ n / d ≤ 9223372036854775807 ∧ 0 ≤ n % d ∧ n % d < d := by
  refine ⟨?_, ?_, Int.emod_nonneg _ (by omega), Int.emod_lt_of_pos _ (by omega)⟩
  · exact (Int.le_ediv_iff_mul_le (by omega)).2 (by have : 9223372036854775808 * 1 ≤ 9223372036854775808 * d := Int.mul_le_mul_of_nonneg_left hd (by omega); omega)
  · have := (Int.ediv_lt_iff_lt_mul (a := n) (b := 9223372036854775808) (c := d) (by omega)).2 (by have : 9223372036854775808 * 1 ≤ 9223372036854775808 * d := Int.mul_le_mul_of_nonneg_left hd (by omega); omega)
    omega

/-- A Wide that is right. -/
def Rt (hi lo : Int) : Prop := 0 ≤ lo ∧ lo < 1000000000000000000 ∧ -4000000000000000000 ≤ hi ∧ hi ≤ 4000000000000000000
instance (hi lo : Int) : Decidable (Rt hi lo) := by unfold Rt; infer_instance
def isB (hi lo : Int) : Bool := decide (Rt hi lo)
def cmpI (ah al bh bl : Int) : Int := if ah = bh ∧ al = bl then 0 else if ah < bh ∨ (ah = bh ∧ al < bl) then -1 else 1
theorem cmpI_eq {ah al bh bl : Int} (h : ah = bh) (k : al = bl) : 0 = cmpI ah al bh bl := by unfold cmpI; rw [if_pos ⟨h, k⟩]
theorem cmpI_lt {ah al bh bl : Int} (h : ah < bh ∨ (ah = bh ∧ al < bl)) : -1 = cmpI ah al bh bl := by unfold cmpI; rw [if_neg (by omega), if_pos h]
theorem cmpI_gt {ah al bh bl : Int} (h : bh < ah ∨ (ah = bh ∧ bl < al)) : 1 = cmpI ah al bh bl := by unfold cmpI; rw [if_neg (by omega), if_neg (by omega)]
theorem cmpI_self (h l : Int) : cmpI h l h l = 0 := (cmpI_eq rfl rfl).symm
end Go.Proofs.Ytllamakemgogaaa
/-
  Contracts of package wide: floor, Of, carry, Cmp, isFactor, halves.
-/
namespace Go.Proofs.Ytllamakemgogaaa
open Go.RowKit

set_option maxHeartbeats 400000 in
theorem floor_any (n d : Int) (w : World) (hd : 1 ≤ d) (hd2 : d ≤ 9223372036854775807) (h0 : -9223372036854775808 ≤ n) (h1 : n ≤ 9223372036854775807) :
    Calls Try.prog 75 #[.int .i64 n, .int .i64 d] w fun e w' => e = .returned (.tuple #[.int .i64 (n / d), .int .i64 (n % d)]) ∧ Below w.heap.size w w' := by
  have hb := fd_bounds n d hd h0 h1
  have l1 := Int.tmod_lt_of_pos n (b := d) (by omega)
  have l2 := Int.lt_tmod_of_pos n (b := d) (by omega)
  by_cases ht : n.tmod d < 0
  · have e := fd_neg n d hd ht
    have b1 : n.tdiv d - 1 ≤ 9223372036854775807 := by omega
    have b2 : -9223372036854775808 ≤ n.tdiv d - 1 := by omega
    have E := Lib.hid e
    clear e hb
    go_enter Try.func75, Try.ntmps75
    go_wp2
    go_quiet (fail)
    go_wp2
    go_ret2
    exact ⟨ret_int2 E.out, below_drewN (Below.refl _ _) _⟩
  · have e := fd_pos n d hd ht
    have E := Lib.hid e
    clear e hb
    go_enter Try.func75, Try.ntmps75
    go_wp2
    go_quiet (fail)
    go_wp2
    go_ret2
    exact ⟨ret_int2 E.out, below_drewN (Below.refl _ _) _⟩

set_option maxHeartbeats 400000 in
theorem of_any (n : Int) (w : World) (h0 : -9223372036854775808 ≤ n) (h1 : n ≤ 9223372036854775807) :
    Calls Try.prog 86 #[.int .i64 n] w fun e w' => e = .returned (.agg #[.int .i64 (n / 1000000000000000000), .int .i64 (n % 1000000000000000000)]) ∧ Below w.heap.size w w' := by
  go_enter Try.func86, Try.ntmps86
  go_wp2_with (go_at_call 75; refine (floor_any _ _ _ (by omega) (by omega) (by omega) (by omega)).mono ?_; rintro e w1 ⟨rfl, hb⟩; obtain ⟨hc, hf⟩ := bcell hb)
  exact bodyPost_ret (v := .agg #[.int .i64 (n / 1000000000000000000), .int .i64 (n % 1000000000000000000)]) (by simp [results, Try.results86, go_sem, hc]) rfl ⟨rfl, ((((Below.refl _ _).alloc (Nat.le_refl _) _).trans (hb.mono (by simp))).setCell (Nat.le_refl _) _).setCell (Nat.le_refl _) _⟩

set_option maxHeartbeats 400000 in
theorem carry_any (hi lo : Int) (w : World) (h0 : -9223372036854775808 ≤ lo) (h1 : lo ≤ 9223372036854775807) (k0 : -9000000000000000000 ≤ hi) (k1 : hi ≤ 9000000000000000000) :
    Calls Try.prog 76 #[.int .i64 hi, .int .i64 lo] w fun e w' => e = .returned (.agg #[.int .i64 (lo / 1000000000000000000 + hi), .int .i64 (lo % 1000000000000000000)]) ∧ Below w.heap.size w w' := by
  go_enter Try.func76, Try.ntmps76
  go_wp2_with (go_at_call 86; refine (of_any _ _ (by omega) (by omega)).mono ?_; rintro e w1 ⟨rfl, hb⟩; obtain ⟨hc1, hf1⟩ := bcell hb; have hB1 : Below w.heap.size w w1 := (by refine Below.trans ?_ (hb.mono (by first | omega | (simp; done) | (simp; omega))); (repeat (first | exact Below.refl _ _ | assumption | refine Below.drew ?_ | refine below_drewN ?_ _ | refine Below.setCell ?_ (by first | omega | (simp; done) | (simp; omega)) _ | refine Below.alloc ?_ (by first | omega | (simp; done) | (simp; omega)) _))); have hs1 := hb.size; (try simp at hs1); (try have hz1_0 : w.heap.size < w1.heap.size := (by have := hb.size; (try simp at this); omega)); (try have hz1_1 : w.heap.size + 1 < w1.heap.size := (by have := hb.size; (try simp at this); omega)); (try have hz1_2 : w.heap.size + 2 < w1.heap.size := (by have := hb.size; (try simp at this); omega)); (try have hz1_3 : w.heap.size + 3 < w1.heap.size := (by have := hb.size; (try simp at this); omega)); (try have hz1_4 : w.heap.size + 4 < w1.heap.size := (by have := hb.size; (try simp at this); omega)); (try have hz1_5 : w.heap.size + 5 < w1.heap.size := (by have := hb.size; (try simp at this); omega)); (try have hc1_0 := fun o : Nat => hc1 (w.heap.size) o (by first | omega | (simp; done) | (simp; omega))); (try have hf1_0 := fun o : Nat => hf1 (w.heap.size) o (by first | omega | (simp; done) | (simp; omega))); (try have hc1_1 := fun o : Nat => hc1 (w.heap.size + 1) o (by first | omega | (simp; done) | (simp; omega))); (try have hf1_1 := fun o : Nat => hf1 (w.heap.size + 1) o (by first | omega | (simp; done) | (simp; omega))); (try have hc1_2 := fun o : Nat => hc1 (w.heap.size + 2) o (by first | omega | (simp; done) | (simp; omega))); (try have hf1_2 := fun o : Nat => hf1 (w.heap.size + 2) o (by first | omega | (simp; done) | (simp; omega))); (try have hc1_3 := fun o : Nat => hc1 (w.heap.size + 3) o (by first | omega | (simp; done) | (simp; omega))); (try have hf1_3 := fun o : Nat => hf1 (w.heap.size + 3) o (by first | omega | (simp; done) | (simp; omega))); clear hb)
  exact bodyPost_ret (v := .agg #[.int .i64 (lo / 1000000000000000000 + hi), .int .i64 (lo % 1000000000000000000)]) (by simp [results, Try.results76, go_sem, hc1, hz1_0]) rfl ⟨rfl, by (repeat (first | exact Below.refl _ _ | assumption | refine Below.drew ?_ | refine below_drewN ?_ _ | refine Below.setCell ?_ (by first | omega | (simp; done) | (simp; omega)) _ | refine Below.alloc ?_ (by first | omega | (simp; done) | (simp; omega)) _))⟩

set_option maxHeartbeats 400000 in
theorem cmp_any (ah al bh bl : Int) (w : World) :
    Calls Try.prog 61 #[.agg #[.int .i64 ah, .int .i64 al], .agg #[.int .i64 bh, .int .i64 bl]] w fun e w' => e = .returned (.int .i64 (cmpI ah al bh bl)) ∧ Below w.heap.size w w' := by
  go_enter Try.func61, Try.ntmps61
  go_wp2
  all_goals (go_ret; exact ⟨ret_int (by first | exact cmpI_eq (by omega) (by omega) | exact cmpI_lt (by omega) | exact cmpI_gt (by omega)), ((Below.refl _ _).alloc (Nat.le_refl _) _).alloc (by simp) _⟩)

set_option maxHeartbeats 400000 in
theorem isFactor_yes (n : Int) (w : World) (h0 : -1000000000000000000 ≤ n) (h1 : n ≤ 1000000000000000000) :
    Calls Try.prog 73 #[.int .i64 n] w fun e w' => e = .returned (.bool true) ∧ Below w.heap.size w w' := by
  go_enter Try.func73, Try.ntmps73
  go_wp2
  go_ret
  exact ⟨rfl, Below.refl _ _⟩
set_option maxHeartbeats 400000 in
theorem isFactor_no (n : Int) (w : World) (h : n < -1000000000000000000 ∨ 1000000000000000000 < n) :
    Calls Try.prog 73 #[.int .i64 n] w fun e w' => e = .returned (.bool false) ∧ Below w.heap.size w w' := by
  by_cases h0 : -1000000000000000000 ≤ n
  · have d1 : decide (n ≤ 1000000000000000000) = false := by simp; omega
    go_enter Try.func73, Try.ntmps73
    go_wp2
    go_ret
    exact ⟨rfl, Below.refl _ _⟩
  · have d1 : decide (-1000000000000000000 ≤ n) = false := by simpa using h0
    go_enter Try.func73, Try.ntmps73
    go_wp2
    go_ret
    exact ⟨rfl, Below.refl _ _⟩
def facB (n : Int) : Bool := decide (-1000000000000000000 ≤ n ∧ n ≤ 1000000000000000000)
theorem isFactor_any (n : Int) (w : World) :
    Calls Try.prog 73 #[.int .i64 n] w fun e w' => e = .returned (.bool (facB n)) ∧ Below w.heap.size w w' := by
  unfold facB
  by_cases h : -1000000000000000000 ≤ n ∧ n ≤ 1000000000000000000
  · rw [decide_eq_true h]; exact isFactor_yes n w h.1 h.2
  · rw [decide_eq_false h]; exact isFactor_no n w (by omega)

set_option maxHeartbeats 400000 in
theorem halves_any (n : Int) (w : World) (h0 : -9223372036854775808 ≤ n) (h1 : n ≤ 9223372036854775807) :
    Calls Try.prog 74 #[.int .i64 n] w fun e w' => e = .returned (.agg #[.int .i64 (n / 1000000000), .int .i64 (n % 1000000000)]) ∧ Below w.heap.size w w' := by
  go_enter Try.func74, Try.ntmps74
  go_wp2_with (go_at_call 75; refine (floor_any _ _ _ (by omega) (by omega) (by omega) (by omega)).mono ?_; rintro e w1 ⟨rfl, hb⟩; obtain ⟨hc1, hf1⟩ := bcell hb; have hB1 : Below w.heap.size w w1 := (by refine Below.trans ?_ (hb.mono (by first | omega | (simp; done) | (simp; omega))); (repeat (first | exact Below.refl _ _ | assumption | refine Below.drew ?_ | refine below_drewN ?_ _ | refine Below.setCell ?_ (by first | omega | (simp; done) | (simp; omega)) _ | refine Below.alloc ?_ (by first | omega | (simp; done) | (simp; omega)) _))); have hs1 := hb.size; (try simp at hs1); (try have hz1_0 : w.heap.size < w1.heap.size := (by have := hb.size; (try simp at this); omega)); (try have hz1_1 : w.heap.size + 1 < w1.heap.size := (by have := hb.size; (try simp at this); omega)); (try have hz1_2 : w.heap.size + 2 < w1.heap.size := (by have := hb.size; (try simp at this); omega)); (try have hz1_3 : w.heap.size + 3 < w1.heap.size := (by have := hb.size; (try simp at this); omega)); (try have hz1_4 : w.heap.size + 4 < w1.heap.size := (by have := hb.size; (try simp at this); omega)); (try have hz1_5 : w.heap.size + 5 < w1.heap.size := (by have := hb.size; (try simp at this); omega)); (try have hc1_0 := fun o : Nat => hc1 (w.heap.size) o (by first | omega | (simp; done) | (simp; omega))); (try have hf1_0 := fun o : Nat => hf1 (w.heap.size) o (by first | omega | (simp; done) | (simp; omega))); (try have hc1_1 := fun o : Nat => hc1 (w.heap.size + 1) o (by first | omega | (simp; done) | (simp; omega))); (try have hf1_1 := fun o : Nat => hf1 (w.heap.size + 1) o (by first | omega | (simp; done) | (simp; omega))); (try have hc1_2 := fun o : Nat => hc1 (w.heap.size + 2) o (by first | omega | (simp; done) | (simp; omega))); (try have hf1_2 := fun o : Nat => hf1 (w.heap.size + 2) o (by first | omega | (simp; done) | (simp; omega))); (try have hc1_3 := fun o : Nat => hc1 (w.heap.size + 3) o (by first | omega | (simp; done) | (simp; omega))); (try have hf1_3 := fun o : Nat => hf1 (w.heap.size + 3) o (by first | omega | (simp; done) | (simp; omega))); clear hb)
  exact bodyPost_ret (v := .agg #[.int .i64 (n / 1000000000), .int .i64 (n % 1000000000)]) (by simp [results, Try.results74, go_sem, hc1]) rfl ⟨rfl, by (repeat (first | exact Below.refl _ _ | assumption | refine Below.drew ?_ | refine below_drewN ?_ _ | refine Below.setCell ?_ (by first | omega | (simp; done) | (simp; omega)) _ | refine Below.alloc ?_ (by first | omega | (simp; done) | (simp; omega)) _))⟩
end Go.Proofs.Ytllamakemgogaaa
/-
  Contracts of package wide: Mul.
-/
namespace Go.Proofs.Ytllamakemgogaaa
open Go.RowKit

theorem ret_wide {a b c d : Int} (x : Int) (h : a = c) (k : b = d) : Ending.returned (.tuple #[.agg #[.int .i64 a, .int .i64 b], .int .i64 x]) = .returned (.tuple #[.agg #[.int .i64 c, .int .i64 d], .int .i64 x]) := by rw [h, k]
def Fac (n : Int) : Prop := -1000000000000000000 ≤ n ∧ n ≤ 1000000000000000000
set_option maxHeartbeats 400000 in
theorem mul_no1 (a b : Int) (w : World) (h : ¬ Fac a) :
    Calls Try.prog 60 #[.int .i64 a, .int .i64 b] w fun e w' => e = .returned (.tuple #[.agg #[.int .i64 0, .int .i64 0], .int .i64 2]) ∧ Below w.heap.size w w' := by
  have h' : a < -1000000000000000000 ∨ 1000000000000000000 < a := by unfold Fac at h; omega
  have H := Lib.hid h'
  clear h h'
  go_enter Try.func60, Try.ntmps60
  go_wp2_with fail
  (refine (isFactor_no _ _ H.out).mono ?_; rintro e w1 ⟨rfl, hb⟩; obtain ⟨hc1, hf1⟩ := bcell hb; have hB1 : Below w.heap.size w w1 := (by refine Below.trans ?_ (hb.mono (by first | omega | (simp; done) | (simp; omega))); (repeat (first | exact Below.refl _ _ | assumption | refine Below.drew ?_ | refine below_drewN ?_ _ | refine Below.setCell ?_ (by first | omega | (simp; done) | (simp; omega)) _ | refine Below.alloc ?_ (by first | omega | (simp; done) | (simp; omega)) _))); have hs1 := hb.size; (try simp at hs1); (try have hz1_0 : w.heap.size < w1.heap.size := (by have := hb.size; (try simp at this); omega)); (try have hz1_1 : w.heap.size + 1 < w1.heap.size := (by have := hb.size; (try simp at this); omega)); (try have hz1_2 : w.heap.size + 2 < w1.heap.size := (by have := hb.size; (try simp at this); omega)); (try have hz1_3 : w.heap.size + 3 < w1.heap.size := (by have := hb.size; (try simp at this); omega)); (try have hz1_4 : w.heap.size + 4 < w1.heap.size := (by have := hb.size; (try simp at this); omega)); (try have hz1_5 : w.heap.size + 5 < w1.heap.size := (by have := hb.size; (try simp at this); omega)); (try have hc1_0 := fun o : Nat => hc1 (w.heap.size) o (by first | omega | (simp; done) | (simp; omega))); (try have hf1_0 := fun o : Nat => hf1 (w.heap.size) o (by first | omega | (simp; done) | (simp; omega))); (try have hc1_1 := fun o : Nat => hc1 (w.heap.size + 1) o (by first | omega | (simp; done) | (simp; omega))); (try have hf1_1 := fun o : Nat => hf1 (w.heap.size + 1) o (by first | omega | (simp; done) | (simp; omega))); (try have hc1_2 := fun o : Nat => hc1 (w.heap.size + 2) o (by first | omega | (simp; done) | (simp; omega))); (try have hf1_2 := fun o : Nat => hf1 (w.heap.size + 2) o (by first | omega | (simp; done) | (simp; omega))); (try have hc1_3 := fun o : Nat => hc1 (w.heap.size + 3) o (by first | omega | (simp; done) | (simp; omega))); (try have hf1_3 := fun o : Nat => hf1 (w.heap.size + 3) o (by first | omega | (simp; done) | (simp; omega))); clear hb)
  go_wp2_with fail
  exact bodyPost_ret (v := .tuple #[.agg #[.int .i64 0, .int .i64 0], .int .i64 2]) (by simp [results, Try.results60, go_sem, *]) rfl ⟨rfl, by (repeat (first | exact Below.refl _ _ | assumption | refine Below.drew ?_ | refine below_drewN ?_ _ | refine Below.setCell ?_ (by first | omega | (simp; done) | (simp; omega)) _ | refine Below.alloc ?_ (by first | omega | (simp; done) | (simp; omega)) _))⟩
set_option maxHeartbeats 400000 in
theorem mul_no2 (a b : Int) (w : World) (k : Fac a) (h : ¬ Fac b) :
    Calls Try.prog 60 #[.int .i64 a, .int .i64 b] w fun e w' => e = .returned (.tuple #[.agg #[.int .i64 0, .int .i64 0], .int .i64 2]) ∧ Below w.heap.size w w' := by
  have h' : b < -1000000000000000000 ∨ 1000000000000000000 < b := by unfold Fac at h; omega
  have H := Lib.hid h'
  have K := Lib.hid k
  clear h h' k
  go_enter Try.func60, Try.ntmps60
  go_wp2_with fail
  (refine (isFactor_yes _ _ K.out.1 K.out.2).mono ?_; rintro e w1 ⟨rfl, hb⟩; obtain ⟨hc1, hf1⟩ := bcell hb; have hB1 : Below w.heap.size w w1 := (by refine Below.trans ?_ (hb.mono (by first | omega | (simp; done) | (simp; omega))); (repeat (first | exact Below.refl _ _ | assumption | refine Below.drew ?_ | refine below_drewN ?_ _ | refine Below.setCell ?_ (by first | omega | (simp; done) | (simp; omega)) _ | refine Below.alloc ?_ (by first | omega | (simp; done) | (simp; omega)) _))); have hs1 := hb.size; (try simp at hs1); (try have hz1_0 : w.heap.size < w1.heap.size := (by have := hb.size; (try simp at this); omega)); (try have hz1_1 : w.heap.size + 1 < w1.heap.size := (by have := hb.size; (try simp at this); omega)); (try have hz1_2 : w.heap.size + 2 < w1.heap.size := (by have := hb.size; (try simp at this); omega)); (try have hz1_3 : w.heap.size + 3 < w1.heap.size := (by have := hb.size; (try simp at this); omega)); (try have hz1_4 : w.heap.size + 4 < w1.heap.size := (by have := hb.size; (try simp at this); omega)); (try have hz1_5 : w.heap.size + 5 < w1.heap.size := (by have := hb.size; (try simp at this); omega)); (try have hc1_0 := fun o : Nat => hc1 (w.heap.size) o (by first | omega | (simp; done) | (simp; omega))); (try have hf1_0 := fun o : Nat => hf1 (w.heap.size) o (by first | omega | (simp; done) | (simp; omega))); (try have hc1_1 := fun o : Nat => hc1 (w.heap.size + 1) o (by first | omega | (simp; done) | (simp; omega))); (try have hf1_1 := fun o : Nat => hf1 (w.heap.size + 1) o (by first | omega | (simp; done) | (simp; omega))); (try have hc1_2 := fun o : Nat => hc1 (w.heap.size + 2) o (by first | omega | (simp; done) | (simp; omega))); (try have hf1_2 := fun o : Nat => hf1 (w.heap.size + 2) o (by first | omega | (simp; done) | (simp; omega))); (try have hc1_3 := fun o : Nat => hc1 (w.heap.size + 3) o (by first | omega | (simp; done) | (simp; omega))); (try have hf1_3 := fun o : Nat => hf1 (w.heap.size + 3) o (by first | omega | (simp; done) | (simp; omega))); clear hb)
  go_wp2_with fail
  (refine (isFactor_no _ _ H.out).mono ?_; rintro e w2 ⟨rfl, hb⟩; obtain ⟨hc2, hf2⟩ := bcell hb; have hB2 : Below w.heap.size w w2 := (by refine Below.trans ?_ (hb.mono (by first | omega | (simp; done) | (simp; omega))); (repeat (first | exact Below.refl _ _ | assumption | refine Below.drew ?_ | refine below_drewN ?_ _ | refine Below.setCell ?_ (by first | omega | (simp; done) | (simp; omega)) _ | refine Below.alloc ?_ (by first | omega | (simp; done) | (simp; omega)) _))); have hs2 := hb.size; (try simp at hs2); (try have hz2_0 : w.heap.size < w2.heap.size := (by have := hb.size; (try simp at this); omega)); (try have hz2_1 : w.heap.size + 1 < w2.heap.size := (by have := hb.size; (try simp at this); omega)); (try have hz2_2 : w.heap.size + 2 < w2.heap.size := (by have := hb.size; (try simp at this); omega)); (try have hz2_3 : w.heap.size + 3 < w2.heap.size := (by have := hb.size; (try simp at this); omega)); (try have hz2_4 : w.heap.size + 4 < w2.heap.size := (by have := hb.size; (try simp at this); omega)); (try have hz2_5 : w.heap.size + 5 < w2.heap.size := (by have := hb.size; (try simp at this); omega)); (try have hc2_0 := fun o : Nat => hc2 (w.heap.size) o (by first | omega | (simp; done) | (simp; omega))); (try have hf2_0 := fun o : Nat => hf2 (w.heap.size) o (by first | omega | (simp; done) | (simp; omega))); (try have hc2_1 := fun o : Nat => hc2 (w.heap.size + 1) o (by first | omega | (simp; done) | (simp; omega))); (try have hf2_1 := fun o : Nat => hf2 (w.heap.size + 1) o (by first | omega | (simp; done) | (simp; omega))); (try have hc2_2 := fun o : Nat => hc2 (w.heap.size + 2) o (by first | omega | (simp; done) | (simp; omega))); (try have hf2_2 := fun o : Nat => hf2 (w.heap.size + 2) o (by first | omega | (simp; done) | (simp; omega))); (try have hc2_3 := fun o : Nat => hc2 (w.heap.size + 3) o (by first | omega | (simp; done) | (simp; omega))); (try have hf2_3 := fun o : Nat => hf2 (w.heap.size + 3) o (by first | omega | (simp; done) | (simp; omega))); clear hb)
  go_wp2_with fail
  exact bodyPost_ret (v := .tuple #[.agg #[.int .i64 0, .int .i64 0], .int .i64 2]) (by simp [results, Try.results60, go_sem, *]) rfl ⟨rfl, by (repeat (first | exact Below.refl _ _ | assumption | refine Below.drew ?_ | refine below_drewN ?_ _ | refine Below.setCell ?_ (by first | omega | (simp; done) | (simp; omega)) _ | refine Below.alloc ?_ (by first | omega | (simp; done) | (simp; omega)) _))⟩

theorem mul_bd {x y p q : Int} (hx : -p ≤ x) (hx' : x ≤ p) (hy : -q ≤ y) (hy' : y ≤ q) (hp : 0 ≤ p) (hq : 0 ≤ q) : -(p * q) ≤ x * y ∧ x * y ≤ p * q := by
  have e : (x * y).natAbs ≤ (p * q).natAbs := by
    rw [Int.natAbs_mul, Int.natAbs_mul]
    exact Nat.mul_le_mul (by omega) (by omega)
  have : 0 ≤ p * q := Int.mul_nonneg hp hq
  omega

/-- The product of halves: what is carried, told as the product's own parts. -/
theorem mul_parts (a b p0 p1 q0 q1 M up mid : Int) (ha : a = p0 * 1000000000 + p1) (hb : b = q0 * 1000000000 + q1) (hM : M = p0 * q1 + p1 * q0) (hu : up = M / 1000000000) (hm : mid = M % 1000000000) :
    a * b = (p0 * q0 + up) * 1000000000000000000 + (mid * 1000000000 + p1 * q1) := by
  have e : M = up * 1000000000 + mid := by omega
  have e2 : p0 * 1000000000 * (q0 * 1000000000) = p0 * q0 * 1000000000000000000 := by
    rw [Int.mul_assoc, Int.mul_left_comm 1000000000 q0 1000000000, ← Int.mul_assoc, show ((1000000000 : Int) * 1000000000) = 1000000000000000000 from rfl]
  have e3 : p1 * (q0 * 1000000000) = p1 * q0 * 1000000000 := (Int.mul_assoc _ _ _).symm
  have e4 : p0 * 1000000000 * q1 = p0 * q1 * 1000000000 := Int.mul_right_comm _ _ _
  have e1 : a * b = p0 * q0 * 1000000000000000000 + (p0 * q1 + p1 * q0) * 1000000000 + p1 * q1 := by
    rw [ha, hb, Int.add_mul, Int.mul_add, Int.mul_add, e2, e3, e4]; omega
  rw [e1, ← hM]; omega

set_option maxHeartbeats 400000 in
theorem mul_ok (a b : Int) (w : World) (k : Fac a) (h : Fac b) :
    Calls Try.prog 60 #[.int .i64 a, .int .i64 b] w fun e w' => e = .returned (.tuple #[.agg #[.int .i64 (a * b / 1000000000000000000), .int .i64 (a * b % 1000000000000000000)], .int .i64 0]) ∧ Below w.heap.size w w' := by
  have K := Lib.hid k
  have H := Lib.hid h
  obtain ⟨a1, a2⟩ := k
  obtain ⟨b1, b2⟩ := h
  go_enter Try.func60, Try.ntmps60
  go_wp2_with fail
  (refine (isFactor_yes _ _ K.out.1 K.out.2).mono ?_; rintro e w1 ⟨rfl, hb⟩; obtain ⟨hc1, hf1⟩ := bcell hb; have hB1 : Below w.heap.size w w1 := (by refine Below.trans ?_ (hb.mono (by first | omega | (simp; done) | (simp; omega))); (repeat (first | exact Below.refl _ _ | assumption | refine Below.drew ?_ | refine below_drewN ?_ _ | refine Below.setCell ?_ (by first | omega | (simp; done) | (simp; omega)) _ | refine Below.alloc ?_ (by first | omega | (simp; done) | (simp; omega)) _))); have hs1 := hb.size; (try simp at hs1); (try have hz1_0 : w.heap.size < w1.heap.size := (by have := hb.size; (try simp at this); omega)); (try have hz1_1 : w.heap.size + 1 < w1.heap.size := (by have := hb.size; (try simp at this); omega)); (try have hz1_2 : w.heap.size + 2 < w1.heap.size := (by have := hb.size; (try simp at this); omega)); (try have hz1_3 : w.heap.size + 3 < w1.heap.size := (by have := hb.size; (try simp at this); omega)); (try have hz1_4 : w.heap.size + 4 < w1.heap.size := (by have := hb.size; (try simp at this); omega)); (try have hz1_5 : w.heap.size + 5 < w1.heap.size := (by have := hb.size; (try simp at this); omega)); (try have hc1_0 := fun o : Nat => hc1 (w.heap.size) o (by first | omega | (simp; done) | (simp; omega))); (try have hf1_0 := fun o : Nat => hf1 (w.heap.size) o (by first | omega | (simp; done) | (simp; omega))); (try have hc1_1 := fun o : Nat => hc1 (w.heap.size + 1) o (by first | omega | (simp; done) | (simp; omega))); (try have hf1_1 := fun o : Nat => hf1 (w.heap.size + 1) o (by first | omega | (simp; done) | (simp; omega))); (try have hc1_2 := fun o : Nat => hc1 (w.heap.size + 2) o (by first | omega | (simp; done) | (simp; omega))); (try have hf1_2 := fun o : Nat => hf1 (w.heap.size + 2) o (by first | omega | (simp; done) | (simp; omega))); (try have hc1_3 := fun o : Nat => hc1 (w.heap.size + 3) o (by first | omega | (simp; done) | (simp; omega))); (try have hf1_3 := fun o : Nat => hf1 (w.heap.size + 3) o (by first | omega | (simp; done) | (simp; omega))); clear hb)
  go_wp2_with fail
  (refine (isFactor_yes _ _ H.out.1 H.out.2).mono ?_; rintro e w2 ⟨rfl, hb⟩; obtain ⟨hc2, hf2⟩ := bcell hb; have hB2 : Below w.heap.size w w2 := (by refine Below.trans ?_ (hb.mono (by first | omega | (simp; done) | (simp; omega))); (repeat (first | exact Below.refl _ _ | assumption | refine Below.drew ?_ | refine below_drewN ?_ _ | refine Below.setCell ?_ (by first | omega | (simp; done) | (simp; omega)) _ | refine Below.alloc ?_ (by first | omega | (simp; done) | (simp; omega)) _))); have hs2 := hb.size; (try simp at hs2); (try have hz2_0 : w.heap.size < w2.heap.size := (by have := hb.size; (try simp at this); omega)); (try have hz2_1 : w.heap.size + 1 < w2.heap.size := (by have := hb.size; (try simp at this); omega)); (try have hz2_2 : w.heap.size + 2 < w2.heap.size := (by have := hb.size; (try simp at this); omega)); (try have hz2_3 : w.heap.size + 3 < w2.heap.size := (by have := hb.size; (try simp at this); omega)); (try have hz2_4 : w.heap.size + 4 < w2.heap.size := (by have := hb.size; (try simp at this); omega)); (try have hz2_5 : w.heap.size + 5 < w2.heap.size := (by have := hb.size; (try simp at this); omega)); (try have hc2_0 := fun o : Nat => hc2 (w.heap.size) o (by first | omega | (simp; done) | (simp; omega))); (try have hf2_0 := fun o : Nat => hf2 (w.heap.size) o (by first | omega | (simp; done) | (simp; omega))); (try have hc2_1 := fun o : Nat => hc2 (w.heap.size + 1) o (by first | omega | (simp; done) | (simp; omega))); (try have hf2_1 := fun o : Nat => hf2 (w.heap.size + 1) o (by first | omega | (simp; done) | (simp; omega))); (try have hc2_2 := fun o : Nat => hc2 (w.heap.size + 2) o (by first | omega | (simp; done) | (simp; omega))); (try have hf2_2 := fun o : Nat => hf2 (w.heap.size + 2) o (by first | omega | (simp; done) | (simp; omega))); (try have hc2_3 := fun o : Nat => hc2 (w.heap.size + 3) o (by first | omega | (simp; done) | (simp; omega))); (try have hf2_3 := fun o : Nat => hf2 (w.heap.size + 3) o (by first | omega | (simp; done) | (simp; omega))); clear hb)
  go_wp2_with fail
  (refine (halves_any _ _ (by omega) (by omega)).mono ?_; rintro e w3 ⟨rfl, hb⟩; obtain ⟨hc3, hf3⟩ := bcell hb; have hB3 : Below w.heap.size w w3 := (by refine Below.trans ?_ (hb.mono (by first | omega | (simp; done) | (simp; omega))); (repeat (first | exact Below.refl _ _ | assumption | refine Below.drew ?_ | refine below_drewN ?_ _ | refine Below.setCell ?_ (by first | omega | (simp; done) | (simp; omega)) _ | refine Below.alloc ?_ (by first | omega | (simp; done) | (simp; omega)) _))); have hs3 := hb.size; (try simp at hs3); (try have hz3_0 : w.heap.size < w3.heap.size := (by have := hb.size; (try simp at this); omega)); (try have hz3_1 : w.heap.size + 1 < w3.heap.size := (by have := hb.size; (try simp at this); omega)); (try have hz3_2 : w.heap.size + 2 < w3.heap.size := (by have := hb.size; (try simp at this); omega)); (try have hz3_3 : w.heap.size + 3 < w3.heap.size := (by have := hb.size; (try simp at this); omega)); (try have hz3_4 : w.heap.size + 4 < w3.heap.size := (by have := hb.size; (try simp at this); omega)); (try have hz3_5 : w.heap.size + 5 < w3.heap.size := (by have := hb.size; (try simp at this); omega)); (try have hc3_0 := fun o : Nat => hc3 (w.heap.size) o (by first | omega | (simp; done) | (simp; omega))); (try have hf3_0 := fun o : Nat => hf3 (w.heap.size) o (by first | omega | (simp; done) | (simp; omega))); (try have hc3_1 := fun o : Nat => hc3 (w.heap.size + 1) o (by first | omega | (simp; done) | (simp; omega))); (try have hf3_1 := fun o : Nat => hf3 (w.heap.size + 1) o (by first | omega | (simp; done) | (simp; omega))); (try have hc3_2 := fun o : Nat => hc3 (w.heap.size + 2) o (by first | omega | (simp; done) | (simp; omega))); (try have hf3_2 := fun o : Nat => hf3 (w.heap.size + 2) o (by first | omega | (simp; done) | (simp; omega))); (try have hc3_3 := fun o : Nat => hc3 (w.heap.size + 3) o (by first | omega | (simp; done) | (simp; omega))); (try have hf3_3 := fun o : Nat => hf3 (w.heap.size + 3) o (by first | omega | (simp; done) | (simp; omega))); clear hb)
  go_wp2_with fail
  (refine (halves_any _ _ (by omega) (by omega)).mono ?_; rintro e w4 ⟨rfl, hb⟩; obtain ⟨hc4, hf4⟩ := bcell hb; have hB4 : Below w.heap.size w w4 := (by refine Below.trans ?_ (hb.mono (by first | omega | (simp; done) | (simp; omega))); (repeat (first | exact Below.refl _ _ | assumption | refine Below.drew ?_ | refine below_drewN ?_ _ | refine Below.setCell ?_ (by first | omega | (simp; done) | (simp; omega)) _ | refine Below.alloc ?_ (by first | omega | (simp; done) | (simp; omega)) _))); have hs4 := hb.size; (try simp at hs4); (try have hz4_0 : w.heap.size < w4.heap.size := (by have := hb.size; (try simp at this); omega)); (try have hz4_1 : w.heap.size + 1 < w4.heap.size := (by have := hb.size; (try simp at this); omega)); (try have hz4_2 : w.heap.size + 2 < w4.heap.size := (by have := hb.size; (try simp at this); omega)); (try have hz4_3 : w.heap.size + 3 < w4.heap.size := (by have := hb.size; (try simp at this); omega)); (try have hz4_4 : w.heap.size + 4 < w4.heap.size := (by have := hb.size; (try simp at this); omega)); (try have hz4_5 : w.heap.size + 5 < w4.heap.size := (by have := hb.size; (try simp at this); omega)); (try have hc4_0 := fun o : Nat => hc4 (w.heap.size) o (by first | omega | (simp; done) | (simp; omega))); (try have hf4_0 := fun o : Nat => hf4 (w.heap.size) o (by first | omega | (simp; done) | (simp; omega))); (try have hc4_1 := fun o : Nat => hc4 (w.heap.size + 1) o (by first | omega | (simp; done) | (simp; omega))); (try have hf4_1 := fun o : Nat => hf4 (w.heap.size + 1) o (by first | omega | (simp; done) | (simp; omega))); (try have hc4_2 := fun o : Nat => hc4 (w.heap.size + 2) o (by first | omega | (simp; done) | (simp; omega))); (try have hf4_2 := fun o : Nat => hf4 (w.heap.size + 2) o (by first | omega | (simp; done) | (simp; omega))); (try have hc4_3 := fun o : Nat => hc4 (w.heap.size + 3) o (by first | omega | (simp; done) | (simp; omega))); (try have hf4_3 := fun o : Nat => hf4 (w.heap.size + 3) o (by first | omega | (simp; done) | (simp; omega))); clear hb)
  have m1 := mul_bd (x := a / 1000000000) (y := b % 1000000000) (p := 1000000000) (q := 1000000000) (by omega) (by omega) (by omega) (by omega) (by omega) (by omega)
  have m2 := mul_bd (x := a % 1000000000) (y := b / 1000000000) (p := 1000000000) (q := 1000000000) (by omega) (by omega) (by omega) (by omega) (by omega) (by omega)
  have m3 := mul_bd (x := a / 1000000000) (y := b / 1000000000) (p := 1000000000) (q := 1000000000) (by omega) (by omega) (by omega) (by omega) (by omega) (by omega)
  have m4 := mul_bd (x := a % 1000000000) (y := b % 1000000000) (p := 1000000000) (q := 1000000000) (by omega) (by omega) (by omega) (by omega) (by omega) (by omega)
  go_wp2_with fail
  (refine (floor_any _ _ _ (by omega) (by omega) (by omega) (by omega)).mono ?_; rintro e w5 ⟨rfl, hb⟩; obtain ⟨hc5, hf5⟩ := bcell hb; have hB5 : Below w.heap.size w w5 := (by refine Below.trans ?_ (hb.mono (by first | omega | (simp; done) | (simp; omega))); (repeat (first | exact Below.refl _ _ | assumption | refine Below.drew ?_ | refine below_drewN ?_ _ | refine Below.setCell ?_ (by first | omega | (simp; done) | (simp; omega)) _ | refine Below.alloc ?_ (by first | omega | (simp; done) | (simp; omega)) _))); have hs5 := hb.size; (try simp at hs5); (try have hz5_0 : w.heap.size < w5.heap.size := (by have := hb.size; (try simp at this); omega)); (try have hz5_1 : w.heap.size + 1 < w5.heap.size := (by have := hb.size; (try simp at this); omega)); (try have hz5_2 : w.heap.size + 2 < w5.heap.size := (by have := hb.size; (try simp at this); omega)); (try have hz5_3 : w.heap.size + 3 < w5.heap.size := (by have := hb.size; (try simp at this); omega)); (try have hz5_4 : w.heap.size + 4 < w5.heap.size := (by have := hb.size; (try simp at this); omega)); (try have hz5_5 : w.heap.size + 5 < w5.heap.size := (by have := hb.size; (try simp at this); omega)); (try have hc5_0 := fun o : Nat => hc5 (w.heap.size) o (by first | omega | (simp; done) | (simp; omega))); (try have hf5_0 := fun o : Nat => hf5 (w.heap.size) o (by first | omega | (simp; done) | (simp; omega))); (try have hc5_1 := fun o : Nat => hc5 (w.heap.size + 1) o (by first | omega | (simp; done) | (simp; omega))); (try have hf5_1 := fun o : Nat => hf5 (w.heap.size + 1) o (by first | omega | (simp; done) | (simp; omega))); (try have hc5_2 := fun o : Nat => hc5 (w.heap.size + 2) o (by first | omega | (simp; done) | (simp; omega))); (try have hf5_2 := fun o : Nat => hf5 (w.heap.size + 2) o (by first | omega | (simp; done) | (simp; omega))); (try have hc5_3 := fun o : Nat => hc5 (w.heap.size + 3) o (by first | omega | (simp; done) | (simp; omega))); (try have hf5_3 := fun o : Nat => hf5 (w.heap.size + 3) o (by first | omega | (simp; done) | (simp; omega))); clear hb)
  have m5 : -2000000001 ≤ (a / 1000000000 * (b % 1000000000) + a % 1000000000 * (b / 1000000000)) / 1000000000 ∧ (a / 1000000000 * (b % 1000000000) + a % 1000000000 * (b / 1000000000)) / 1000000000 ≤ 2000000001 := by omega
  have E := mul_parts a b (a / 1000000000) (a % 1000000000) (b / 1000000000) (b % 1000000000) _ _ _ (by omega) (by omega) rfl rfl rfl
  generalize hM : (a / 1000000000 * (b % 1000000000) + a % 1000000000 * (b / 1000000000)) = M at *
  have E2 := Lib.hid E
  clear hM E
  go_wp2_with fail
  (refine (carry_any _ _ _ (by omega) (by omega) (by omega) (by omega)).mono ?_; rintro e w6 ⟨rfl, hb⟩; obtain ⟨hc6, hf6⟩ := bcell hb; have hB6 : Below w.heap.size w w6 := (by refine Below.trans ?_ (hb.mono (by first | omega | (simp; done) | (simp; omega))); (repeat (first | exact Below.refl _ _ | assumption | refine Below.drew ?_ | refine below_drewN ?_ _ | refine Below.setCell ?_ (by first | omega | (simp; done) | (simp; omega)) _ | refine Below.alloc ?_ (by first | omega | (simp; done) | (simp; omega)) _))); have hs6 := hb.size; (try simp at hs6); (try have hz6_0 : w.heap.size < w6.heap.size := (by have := hb.size; (try simp at this); omega)); (try have hz6_1 : w.heap.size + 1 < w6.heap.size := (by have := hb.size; (try simp at this); omega)); (try have hz6_2 : w.heap.size + 2 < w6.heap.size := (by have := hb.size; (try simp at this); omega)); (try have hz6_3 : w.heap.size + 3 < w6.heap.size := (by have := hb.size; (try simp at this); omega)); (try have hz6_4 : w.heap.size + 4 < w6.heap.size := (by have := hb.size; (try simp at this); omega)); (try have hz6_5 : w.heap.size + 5 < w6.heap.size := (by have := hb.size; (try simp at this); omega)); (try have hc6_0 := fun o : Nat => hc6 (w.heap.size) o (by first | omega | (simp; done) | (simp; omega))); (try have hf6_0 := fun o : Nat => hf6 (w.heap.size) o (by first | omega | (simp; done) | (simp; omega))); (try have hc6_1 := fun o : Nat => hc6 (w.heap.size + 1) o (by first | omega | (simp; done) | (simp; omega))); (try have hf6_1 := fun o : Nat => hf6 (w.heap.size + 1) o (by first | omega | (simp; done) | (simp; omega))); (try have hc6_2 := fun o : Nat => hc6 (w.heap.size + 2) o (by first | omega | (simp; done) | (simp; omega))); (try have hf6_2 := fun o : Nat => hf6 (w.heap.size + 2) o (by first | omega | (simp; done) | (simp; omega))); (try have hc6_3 := fun o : Nat => hc6 (w.heap.size + 3) o (by first | omega | (simp; done) | (simp; omega))); (try have hf6_3 := fun o : Nat => hf6 (w.heap.size + 3) o (by first | omega | (simp; done) | (simp; omega))); clear hb)
  go_wp2_with fail
  have t0 : w5.cell? ⟨w.heap.size, 0, none⟩ = some (.int .i64 0) := by simp [go_sem, *]
  have t1 : w5.cell? ⟨w.heap.size, 1, none⟩ = some (.int .i64 0) := by simp [go_sem, *]
  have t2 : w6.cell? ⟨w.heap.size, 0, none⟩ = some (.int .i64 0) := (hc6_0 0).trans t0
  have t3 : w6.cell? ⟨w.heap.size, 1, none⟩ = some (.int .i64 0) := (hc6_0 1).trans t1
  exact bodyPost_ret (v := .tuple #[.agg #[.int .i64 ((M % 1000000000 * 1000000000 + a % 1000000000 * (b % 1000000000)) / 1000000000000000000 + (a / 1000000000 * (b / 1000000000) + M / 1000000000)), .int .i64 ((M % 1000000000 * 1000000000 + a % 1000000000 * (b % 1000000000)) % 1000000000000000000)], .int .i64 0])
    (by simp [results, Try.results60, go_sem, t2, t3]) rfl ⟨ret_wide 0 (by have := E2.out; omega) (by have := E2.out; omega), by (repeat (first | exact Below.refl _ _ | assumption | refine Below.drew ?_ | refine below_drewN ?_ _ | refine Below.setCell ?_ (by first | omega | (simp; done) | (simp; omega)) _ | refine Below.alloc ?_ (by first | omega | (simp; done) | (simp; omega)) _))⟩
end Go.Proofs.Ytllamakemgogaaa
