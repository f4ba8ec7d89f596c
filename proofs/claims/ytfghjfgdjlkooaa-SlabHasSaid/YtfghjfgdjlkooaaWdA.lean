/-
  Contracts of package wide: floor, Of, carry, Cmp, isFactor, halves.
-/
import Derived.Test.YtfghjfgdjlkooaaBase
import Derived.Test.YtfghjfgdjlkooaaWidePl
import Derived.WalkKit
import Derived.WalkSpells
import Derived.WalkLawsBesides
import Derived.IntWalk
import Derived.BigQuiet
import Derived.Deep.QuietTactic
import Derived.Lib.Hide
namespace Go.Proofs.Ytfghjfgdjlkooaa
open Go.RowKit

set_option maxHeartbeats 400000 in
theorem floor_any (n d : Int) (w : World) (hd : 1 ≤ d) (hd2 : d ≤ 9223372036854775807) (h0 : -9223372036854775808 ≤ n) (h1 : n ≤ 9223372036854775807) :
    Calls Try.prog 69 #[.int .i64 n, .int .i64 d] w fun e w' => e = .returned (.tuple #[.int .i64 (n / d), .int .i64 (n % d)]) ∧ Below w.heap.size w w' := by
  have hb := fd_bounds n d hd h0 h1
  have l1 := Int.tmod_lt_of_pos n (b := d) (by omega)
  have l2 := Int.lt_tmod_of_pos n (b := d) (by omega)
  by_cases ht : n.tmod d < 0
  · have e := fd_neg n d hd ht
    have b1 : n.tdiv d - 1 ≤ 9223372036854775807 := by omega
    have b2 : -9223372036854775808 ≤ n.tdiv d - 1 := by omega
    have E := Lib.hid e
    clear e hb
    go_enter Try.func69, Try.ntmps69
    go_wp2
    go_quiet (fail)
    go_wp2
    go_ret2
    exact ⟨ret_int2 E.out, below_drewN (Below.refl _ _) _⟩
  · have e := fd_pos n d hd ht
    have E := Lib.hid e
    clear e hb
    go_enter Try.func69, Try.ntmps69
    go_wp2
    go_quiet (fail)
    go_wp2
    go_ret2
    exact ⟨ret_int2 E.out, below_drewN (Below.refl _ _) _⟩

set_option maxHeartbeats 400000 in
theorem of_any (n : Int) (w : World) (h0 : -9223372036854775808 ≤ n) (h1 : n ≤ 9223372036854775807) :
    Calls Try.prog 73 #[.int .i64 n] w fun e w' => e = .returned (.agg #[.int .i64 (n / 1000000000000000000), .int .i64 (n % 1000000000000000000)]) ∧ Below w.heap.size w w' := by
  go_enter Try.func73, Try.ntmps73
  go_wp2_with (go_at_call 69; refine (floor_any _ _ _ (by omega) (by omega) (by omega) (by omega)).mono ?_; rintro e w1 ⟨rfl, hb⟩; obtain ⟨hc, hf⟩ := bcell hb)
  exact bodyPost_ret (v := .agg #[.int .i64 (n / 1000000000000000000), .int .i64 (n % 1000000000000000000)]) (by simp [results, Try.results73, go_sem, hc]) rfl ⟨rfl, ((((Below.refl _ _).alloc (Nat.le_refl _) _).trans (hb.mono (by simp))).setCell (Nat.le_refl _) _).setCell (Nat.le_refl _) _⟩

set_option maxHeartbeats 400000 in
theorem carry_any (hi lo : Int) (w : World) (h0 : -9223372036854775808 ≤ lo) (h1 : lo ≤ 9223372036854775807) (k0 : -9000000000000000000 ≤ hi) (k1 : hi ≤ 9000000000000000000) :
    Calls Try.prog 70 #[.int .i64 hi, .int .i64 lo] w fun e w' => e = .returned (.agg #[.int .i64 (lo / 1000000000000000000 + hi), .int .i64 (lo % 1000000000000000000)]) ∧ Below w.heap.size w w' := by
  go_enter Try.func70, Try.ntmps70
  go_wp2_with (go_at_call 73; refine (of_any _ _ (by omega) (by omega)).mono ?_; rintro e w1 ⟨rfl, hb⟩; obtain ⟨hc1, hf1⟩ := bcell hb; have hB1 : Below w.heap.size w w1 := (by refine Below.trans ?_ (hb.mono (by first | omega | (simp; done) | (simp; omega))); (repeat (first | exact Below.refl _ _ | assumption | refine Below.drew ?_ | refine below_drewN ?_ _ | refine Below.setCell ?_ (by first | omega | (simp; done) | (simp; omega)) _ | refine Below.alloc ?_ (by first | omega | (simp; done) | (simp; omega)) _))); have hs1 := hb.size; (try simp at hs1); (try have hz1_0 : w.heap.size < w1.heap.size := (by have := hb.size; (try simp at this); omega)); (try have hz1_1 : w.heap.size + 1 < w1.heap.size := (by have := hb.size; (try simp at this); omega)); (try have hz1_2 : w.heap.size + 2 < w1.heap.size := (by have := hb.size; (try simp at this); omega)); (try have hz1_3 : w.heap.size + 3 < w1.heap.size := (by have := hb.size; (try simp at this); omega)); (try have hz1_4 : w.heap.size + 4 < w1.heap.size := (by have := hb.size; (try simp at this); omega)); (try have hz1_5 : w.heap.size + 5 < w1.heap.size := (by have := hb.size; (try simp at this); omega)); (try have hc1_0 := fun o : Nat => hc1 (w.heap.size) o (by first | omega | (simp; done) | (simp; omega))); (try have hf1_0 := fun o : Nat => hf1 (w.heap.size) o (by first | omega | (simp; done) | (simp; omega))); (try have hc1_1 := fun o : Nat => hc1 (w.heap.size + 1) o (by first | omega | (simp; done) | (simp; omega))); (try have hf1_1 := fun o : Nat => hf1 (w.heap.size + 1) o (by first | omega | (simp; done) | (simp; omega))); (try have hc1_2 := fun o : Nat => hc1 (w.heap.size + 2) o (by first | omega | (simp; done) | (simp; omega))); (try have hf1_2 := fun o : Nat => hf1 (w.heap.size + 2) o (by first | omega | (simp; done) | (simp; omega))); (try have hc1_3 := fun o : Nat => hc1 (w.heap.size + 3) o (by first | omega | (simp; done) | (simp; omega))); (try have hf1_3 := fun o : Nat => hf1 (w.heap.size + 3) o (by first | omega | (simp; done) | (simp; omega))); clear hb)
  exact bodyPost_ret (v := .agg #[.int .i64 (lo / 1000000000000000000 + hi), .int .i64 (lo % 1000000000000000000)]) (by simp [results, Try.results70, go_sem, hc1, hz1_0]) rfl ⟨rfl, by (repeat (first | exact Below.refl _ _ | assumption | refine Below.drew ?_ | refine below_drewN ?_ _ | refine Below.setCell ?_ (by first | omega | (simp; done) | (simp; omega)) _ | refine Below.alloc ?_ (by first | omega | (simp; done) | (simp; omega)) _))⟩

set_option maxHeartbeats 400000 in
theorem cmp_any (ah al bh bl : Int) (w : World) :
    Calls Try.prog 60 #[.agg #[.int .i64 ah, .int .i64 al], .agg #[.int .i64 bh, .int .i64 bl]] w fun e w' => e = .returned (.int .i64 (cmpI ah al bh bl)) ∧ Below w.heap.size w w' := by
  go_enter Try.func60, Try.ntmps60
  go_wp2
  all_goals (go_ret; exact ⟨ret_int (by first | exact cmpI_eq (by omega) (by omega) | exact cmpI_lt (by omega) | exact cmpI_gt (by omega)), ((Below.refl _ _).alloc (Nat.le_refl _) _).alloc (by simp) _⟩)

set_option maxHeartbeats 400000 in
theorem isFactor_yes (n : Int) (w : World) (h0 : -1000000000000000000 ≤ n) (h1 : n ≤ 1000000000000000000) :
    Calls Try.prog 67 #[.int .i64 n] w fun e w' => e = .returned (.bool true) ∧ Below w.heap.size w w' := by
  go_enter Try.func67, Try.ntmps67
  go_wp2
  go_ret
  exact ⟨rfl, Below.refl _ _⟩
set_option maxHeartbeats 400000 in
theorem isFactor_no (n : Int) (w : World) (h : n < -1000000000000000000 ∨ 1000000000000000000 < n) :
    Calls Try.prog 67 #[.int .i64 n] w fun e w' => e = .returned (.bool false) ∧ Below w.heap.size w w' := by
  by_cases h0 : -1000000000000000000 ≤ n
  · have d1 : decide (n ≤ 1000000000000000000) = false := by simp; omega
    go_enter Try.func67, Try.ntmps67
    go_wp2
    go_ret
    exact ⟨rfl, Below.refl _ _⟩
  · have d1 : decide (-1000000000000000000 ≤ n) = false := by simpa using h0
    go_enter Try.func67, Try.ntmps67
    go_wp2
    go_ret
    exact ⟨rfl, Below.refl _ _⟩
def facB (n : Int) : Bool := decide (-1000000000000000000 ≤ n ∧ n ≤ 1000000000000000000)
theorem isFactor_any (n : Int) (w : World) :
    Calls Try.prog 67 #[.int .i64 n] w fun e w' => e = .returned (.bool (facB n)) ∧ Below w.heap.size w w' := by
  unfold facB
  by_cases h : -1000000000000000000 ≤ n ∧ n ≤ 1000000000000000000
  · rw [decide_eq_true h]; exact isFactor_yes n w h.1 h.2
  · rw [decide_eq_false h]; exact isFactor_no n w (by omega)

set_option maxHeartbeats 400000 in
theorem halves_any (n : Int) (w : World) (h0 : -9223372036854775808 ≤ n) (h1 : n ≤ 9223372036854775807) :
    Calls Try.prog 68 #[.int .i64 n] w fun e w' => e = .returned (.agg #[.int .i64 (n / 1000000000), .int .i64 (n % 1000000000)]) ∧ Below w.heap.size w w' := by
  go_enter Try.func68, Try.ntmps68
  go_wp2_with (go_at_call 69; refine (floor_any _ _ _ (by omega) (by omega) (by omega) (by omega)).mono ?_; rintro e w1 ⟨rfl, hb⟩; obtain ⟨hc1, hf1⟩ := bcell hb; have hB1 : Below w.heap.size w w1 := (by refine Below.trans ?_ (hb.mono (by first | omega | (simp; done) | (simp; omega))); (repeat (first | exact Below.refl _ _ | assumption | refine Below.drew ?_ | refine below_drewN ?_ _ | refine Below.setCell ?_ (by first | omega | (simp; done) | (simp; omega)) _ | refine Below.alloc ?_ (by first | omega | (simp; done) | (simp; omega)) _))); have hs1 := hb.size; (try simp at hs1); (try have hz1_0 : w.heap.size < w1.heap.size := (by have := hb.size; (try simp at this); omega)); (try have hz1_1 : w.heap.size + 1 < w1.heap.size := (by have := hb.size; (try simp at this); omega)); (try have hz1_2 : w.heap.size + 2 < w1.heap.size := (by have := hb.size; (try simp at this); omega)); (try have hz1_3 : w.heap.size + 3 < w1.heap.size := (by have := hb.size; (try simp at this); omega)); (try have hz1_4 : w.heap.size + 4 < w1.heap.size := (by have := hb.size; (try simp at this); omega)); (try have hz1_5 : w.heap.size + 5 < w1.heap.size := (by have := hb.size; (try simp at this); omega)); (try have hc1_0 := fun o : Nat => hc1 (w.heap.size) o (by first | omega | (simp; done) | (simp; omega))); (try have hf1_0 := fun o : Nat => hf1 (w.heap.size) o (by first | omega | (simp; done) | (simp; omega))); (try have hc1_1 := fun o : Nat => hc1 (w.heap.size + 1) o (by first | omega | (simp; done) | (simp; omega))); (try have hf1_1 := fun o : Nat => hf1 (w.heap.size + 1) o (by first | omega | (simp; done) | (simp; omega))); (try have hc1_2 := fun o : Nat => hc1 (w.heap.size + 2) o (by first | omega | (simp; done) | (simp; omega))); (try have hf1_2 := fun o : Nat => hf1 (w.heap.size + 2) o (by first | omega | (simp; done) | (simp; omega))); (try have hc1_3 := fun o : Nat => hc1 (w.heap.size + 3) o (by first | omega | (simp; done) | (simp; omega))); (try have hf1_3 := fun o : Nat => hf1 (w.heap.size + 3) o (by first | omega | (simp; done) | (simp; omega))); clear hb)
  exact bodyPost_ret (v := .agg #[.int .i64 (n / 1000000000), .int .i64 (n % 1000000000)]) (by simp [results, Try.results68, go_sem, hc1]) rfl ⟨rfl, by (repeat (first | exact Below.refl _ _ | assumption | refine Below.drew ?_ | refine below_drewN ?_ _ | refine Below.setCell ?_ (by first | omega | (simp; done) | (simp; omega)) _ | refine Below.alloc ?_ (by first | omega | (simp; done) | (simp; omega)) _))⟩
end Go.Proofs.Ytfghjfgdjlkooaa
