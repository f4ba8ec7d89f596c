/-
  The reference's numbers as digits: rows in memory; digit, trim.
-/
import Derived.Test.YtehfmapbodjppaaDoorBase
import Derived.Test.YtehfmapbodjppaaDoorWidePl
import Derived.LoopTactic
import Derived.Deep.LoopGhost
import Derived.LoopN
namespace Go.Proofs.YtehfmapbodjppaaDoor
open Go.RowKit

/-- The number of k digits from place i on, the least one first. -/
def vs (D : Nat → Int) (i : Nat) : Nat → Int
  | 0 => 0
  | k + 1 => D i + 10 * vs D (i + 1) k
def p10 : Nat → Int
  | 0 => 1
  | k + 1 => 10 * p10 k
theorem p10_pos (k : Nat) : 1 ≤ p10 k := by
  induction k with
  | zero => exact Int.le_refl _
  | succ k ih => show 1 ≤ 10 * p10 k; omega
theorem vs_snoc (D : Nat → Int) (k : Nat) : ∀ i, vs D i (k + 1) = vs D i k + p10 k * D (i + k) := by
  induction k with
  | zero => intro i; show D i + 10 * 0 = 0 + 1 * D (i + 0); rw [Nat.add_zero]; omega
  | succ k ih =>
    intro i
    show D i + 10 * vs D (i + 1) (k + 1) = D i + 10 * vs D (i + 1) k + 10 * p10 k * D (i + (k + 1))
    rw [ih (i + 1), show i + 1 + k = i + (k + 1) from by omega, Int.mul_assoc]
    omega
theorem vs_same {D E : Nat → Int} (k : Nat) : ∀ i, (∀ j, i ≤ j → j < i + k → D j = E j) → vs D i k = vs E i k := by
  induction k with
  | zero => intro i _; rfl
  | succ k ih =>
    intro i h
    show D i + 10 * vs D (i + 1) k = E i + 10 * vs E (i + 1) k
    rw [h i (Nat.le_refl _) (by omega), ih (i + 1) (fun j h1 h2 => h j (by omega) (by omega))]
/-- Digits. -/
def Dg (D : Nat → Int) (n : Nat) : Prop := ∀ i, i < n → 0 ≤ D i ∧ D i ≤ 9
theorem vs_bd {D : Nat → Int} {n : Nat} (h : Dg D n) (k : Nat) : ∀ i, i + k ≤ n → 0 ≤ vs D i k ∧ vs D i k < p10 k := by
  induction k with
  | zero => intro i _; exact ⟨Int.le_refl _, by show (0 : Int) < 1; omega⟩
  | succ k ih =>
    intro i hi
    have h1 := ih (i + 1) (by omega)
    have h2 := h i (by omega)
    show 0 ≤ D i + 10 * vs D (i + 1) k ∧ D i + 10 * vs D (i + 1) k < 10 * p10 k
    omega

/-- A row of ints in memory: the slice 'a, n, c' reads as D 0 .. D (n - 1). -/
def RowF (W : World) (a : Option Addr) (n c : Nat) (D : Nat → Int) : Prop :=
  (a = none ∧ n = 0 ∧ c = 0) ∨ ∃ b off, a = some ⟨b, off, none⟩ ∧ b < W.heap.size ∧ n ≤ c ∧ ∀ i, i < n → W.cell? ⟨b, off + i, none⟩ = some (.int .i64 (D i))
theorem RowF.keep {W W' : World} {a : Option Addr} {n c : Nat} {D : Nat → Int} (h : RowF W a n c D) (hb : Below W.heap.size W W') : RowF W' a n c D := by
  rcases h with h | ⟨b, off, ha, hl, hc, h⟩
  · exact .inl h
  · exact .inr ⟨b, off, ha, Nat.lt_of_lt_of_le hl hb.size, hc, fun i hi => keepc hb (h i hi)⟩
theorem RowF.le {W : World} {a : Option Addr} {n c : Nat} {D : Nat → Int} (h : RowF W a n c D) : n ≤ c := by
  rcases h with ⟨_, rfl, rfl⟩ | ⟨b, off, ha, hl, hc, h⟩
  · exact Nat.le_refl _
  · exact hc
theorem RowF.at {W : World} {a : Option Addr} {n c : Nat} {D : Nat → Int} (h : RowF W a n c D) {i : Nat} (hi : i < n) : ∃ b off, a = some ⟨b, off, none⟩ ∧ b < W.heap.size ∧ ∀ i, i < n → W.cell? ⟨b, off + i, none⟩ = some (.int .i64 (D i)) := by
  rcases h with ⟨_, h, _⟩ | ⟨b, off, ha, hl, hc, h⟩
  · omega
  · exact ⟨b, off, ha, hl, h⟩
/-- The digit at a place; behind the last one 0. -/
def dgt (D : Nat → Int) (n : Nat) (i : Nat) : Int := if i < n then D i else 0
theorem dgt_Dg {D : Nat → Int} {n : Nat} (h : Dg D n) (i : Nat) : 0 ≤ dgt D n i ∧ dgt D n i ≤ 9 := by
  unfold dgt; split
  · exact h i (by assumption)
  · omega

set_option maxHeartbeats 400000 in
theorem digit_any (s : Bool) (a : Option Addr) (n c : Nat) (D : Nat → Int) (i : Nat) (w : World) (hr : RowF w a n c D) (_ : n ≤ 9223372036854775807) (_ : i ≤ 9223372036854775807) :
    Calls Tryd.prog 43 #[.agg #[.bool s, .slice a n c], .int .i64 i] w fun e w' => e = .returned (.int .i64 (dgt D n i)) ∧ Below w.heap.size w w' := by
  unfold dgt
  by_cases hlt : i < n
  · rw [if_pos hlt]
    obtain ⟨b, off, rfl, hl, h⟩ := hr.at hlt
    have h1 : (w.alloc (.cells #[.bool s, .slice (some ⟨b, off, none⟩) n c] 50)).cell? ⟨b, off + i, none⟩ = some (.int .i64 (D i)) := keepa (h i hlt)
    clear hr h
    go_enter Tryd.func43, Tryd.ntmps43
    go_wp2
    go_ret
    exact ⟨rfl, (Below.refl _ _).alloc (Nat.le_refl _) _⟩
  · rw [if_neg hlt]
    clear hr
    go_enter Tryd.func43, Tryd.ntmps43
    go_wp2
    go_ret
    exact ⟨rfl, (Below.refl _ _).alloc (Nat.le_refl _) _⟩

/-- How many are left without zeros at the end. -/
def tl (D : Nat → Int) : Nat → Nat
  | 0 => 0
  | n + 1 => if D n = 0 then tl D n else n + 1
theorem tl_le (D : Nat → Int) (n : Nat) : tl D n ≤ n := by
  induction n with
  | zero => exact Nat.le_refl _
  | succ n ih => unfold tl; split <;> omega
theorem tl_vs (D : Nat → Int) (n : Nat) : vs D 0 (tl D n) = vs D 0 n := by
  induction n with
  | zero => rfl
  | succ n ih =>
    unfold tl; split
    · rename_i h; rw [ih, vs_snoc, Nat.zero_add, h]; omega
    · rfl
theorem tl_top (D : Nat → Int) (n : Nat) : tl D n = 0 ∨ D (tl D n - 1) ≠ 0 := by
  induction n with
  | zero => exact .inl rfl
  | succ n ih =>
    unfold tl; split
    · exact ih
    · rename_i h; exact .inr h

set_option maxHeartbeats 400000 in
theorem trim_row (s : Bool) (b off n c : Nat) (D : Nat → Int) (w : World) (hn : n ≤ c) (hc : c ≤ 9223372036854775807) (h : ∀ i, i < n → w.cell? ⟨b, off + i, none⟩ = some (.int .i64 (D i))) :
    Calls Tryd.prog 34 #[.bool s, .slice (some ⟨b, off, none⟩) n c] w fun e w' => e = .returned (.agg #[.bool (s && decide (0 < tl D n)), .slice (some ⟨b, off, none⟩) (tl D n) c]) ∧ Below w.heap.size w w' := by
  have h' : ∀ i, i < n → (w.alloc (.cells #[.bool false, .slice none 0 0] 50)).cell? ⟨b, off + i, none⟩ = some (.int .i64 (D i)) := fun i hi => keepa (h i hi)
  have HC := Lib.hid h'
  clear h h'
  go_enter Tryd.func34, Tryd.ntmps34
  go_wp2
  go_loop [5] (fun v => ∃ k : Nat, k ≤ n ∧ v = .int .i64 k ∧ tl D k = tl D n) (fun v => (intOf v).toNat)
  case atStart => exact ⟨n, Nat.le_refl _, rfl, rfl⟩
  case round =>
    obtain ⟨k, hk, rfl, ht⟩ := hrel
    have HT := Lib.hid ht
    clear ht
    by_cases hz : k = 0
    · subst hz
      have e0 : tl D n = 0 := HT.out.symm
      cases s
      all_goals
        go_wp2
        exact bodyPost_ret (v := .agg #[.bool false, .slice (some ⟨b, off, none⟩) 0 c]) (by simp [results, Tryd.results34, go_sem]) rfl ⟨rfl, by (repeat (first | exact Below.refl _ _ | assumption | refine Below.drew ?_ | refine below_drewN ?_ _ | refine Below.setCell ?_ (by first | omega | (simp; done) | (simp; omega)) _ | refine Below.alloc ?_ (by first | omega | (simp; done) | (simp; omega)) _))⟩
    · obtain ⟨j, rfl⟩ : ∃ j, k = j + 1 := ⟨k - 1, by omega⟩
      have hc0 := HC.out j (by omega)
      by_cases hd : D j = 0
      · have dz : (D j == 0) = true := by rw [beq_iff_eq]; exact hd
        have HD := Lib.hid hd
        clear hd
        go_wp2
        go_round
        case rel => exact ⟨j, by omega, rfl, by have this : (if D j = 0 then tl D j else j + 1) = tl D n := HT.out; rw [if_pos HD.out] at this; exact this⟩
        case measure => simp [intOf]
      · have dz : (D j == 0) = false := by rw [beq_eq_false_iff_ne]; exact hd
        have e0 : tl D n = j + 1 := by have this : (if D j = 0 then tl D j else j + 1) = tl D n := HT.out; rw [if_neg hd] at this; exact this.symm
        clear hd
        cases s
        · go_wp2
          exact bodyPost_ret (v := .agg #[.bool false, .slice (some ⟨b, off, none⟩) (j + 1) c]) (by simp [results, Tryd.results34, go_sem]) rfl ⟨rfl, by (repeat (first | exact Below.refl _ _ | assumption | refine Below.drew ?_ | refine below_drewN ?_ _ | refine Below.setCell ?_ (by first | omega | (simp; done) | (simp; omega)) _ | refine Below.alloc ?_ (by first | omega | (simp; done) | (simp; omega)) _))⟩
        · go_wp2
          exact bodyPost_ret (v := .agg #[.bool true, .slice (some ⟨b, off, none⟩) (j + 1) c]) (by simp [results, Tryd.results34, go_sem]) rfl ⟨rfl, by (repeat (first | exact Below.refl _ _ | assumption | refine Below.drew ?_ | refine below_drewN ?_ _ | refine Below.setCell ?_ (by first | omega | (simp; done) | (simp; omega)) _ | refine Below.alloc ?_ (by first | omega | (simp; done) | (simp; omega)) _))⟩
set_option maxHeartbeats 400000 in
theorem trim_nil (s : Bool) (w : World) :
    Calls Tryd.prog 34 #[.bool s, .slice none 0 0] w fun e w' => e = .returned (.agg #[.bool false, .slice none 0 0]) ∧ Below w.heap.size w w' := by
  cases s
  all_goals
    go_enter Tryd.func34, Tryd.ntmps34
    go_wp2
    refine wp_loop_rounds 1 ?_
    rw [rounds_succ]
    go_wp2
    exact bodyPost_ret (v := .agg #[.bool false, .slice none 0 0]) (by simp [results, Tryd.results34, go_sem]) rfl ⟨rfl, by (repeat (first | exact Below.refl _ _ | assumption | refine Below.drew ?_ | refine below_drewN ?_ _ | refine Below.setCell ?_ (by first | omega | (simp; done) | (simp; omega)) _ | refine Below.alloc ?_ (by first | omega | (simp; done) | (simp; omega)) _))⟩
theorem trim_any (s : Bool) (a : Option Addr) (n c : Nat) (D : Nat → Int) (w : World) (hr : RowF w a n c D) (hc : c ≤ 9223372036854775807) :
    Calls Tryd.prog 34 #[.bool s, .slice a n c] w fun e w' => e = .returned (.agg #[.bool (s && decide (0 < tl D n)), .slice a (tl D n) c]) ∧ Below w.heap.size w w' := by
  rcases hr with ⟨rfl, rfl, rfl⟩ | ⟨b, off, rfl, hl, hn, h⟩
  · have := trim_nil s w
    simpa [tl] using this
  · exact trim_row s b off n c D w hn hc h
end Go.Proofs.YtehfmapbodjppaaDoor
