/-
  Texts in one: WhE, FsA, RefA, RefB, RefC, RefD, RefE, RefF, RefG, RefH, RefM, RefN, RefOa, RelN, RefHo, RefS, FrD.
-/
import Derived.Test.YtfghjfgdjlkooaaWhC
import Derived.Test.YtfghjfgdjlkooaaFrC
import Derived.Test.YtfghjfgdjlkooaaWhB
import Derived.Test.YtfghjfgdjlkooaaBase
import Derived.Test.YtfghjfgdjlkooaaWidePl
import Derived.LoopTactic
import Derived.Deep.LoopGhost
import Derived.LoopN
import Derived.Laws.AppendOwn
import Derived.OwnWalk
import Derived.Test.YtfghjfgdjlkooaaWideR
import Derived.Deep.RegionHeld3
import Derived.RegionTactic
import Derived.BigRegion
import Derived.Test.YtfghjfgdjlkooaaRel
import Derived.Test.YtfghjfgdjlkooaaOpenK
/-
  Contracts of the reference of package whole: Gcd.
-/
namespace Go.Proofs.Ytfghjfgdjlkooaa
open Go.RowKit

end Go.Proofs.Ytfghjfgdjlkooaa
/-
  Contracts of the reference of package frac: Is, order, Floor, Reduce.
-/
namespace Go.Proofs.Ytfghjfgdjlkooaa
open Go.RowKit

set_option maxHeartbeats 400000 in
theorem ris_f_yes (n d : Int) (w : World) (h : FR n d) :
    Calls Try.prog 40 #[.agg #[.int .i64 n, .int .i64 d]] w fun e w' => e = .returned (.bool true) ∧ Below w.heap.size w w' := by
  obtain ⟨c1, c2, c3, c4⟩ := h
  go_enter Try.func40, Try.ntmps40
  go_wp2
  go_ret
  exact ⟨rfl, (Below.refl _ _).alloc (Nat.le_refl _) _⟩
set_option maxHeartbeats 400000 in
theorem ris_f_no (n d : Int) (w : World) (h : ¬ FR n d) :
    Calls Try.prog 40 #[.agg #[.int .i64 n, .int .i64 d]] w fun e w' => e = .returned (.bool false) ∧ Below w.heap.size w w' := by
  unfold FR at h
  by_cases c1 : 1 ≤ d
  · by_cases c2 : d ≤ 1000000000000000000
    · by_cases c3 : -1000000000000000000 ≤ n
      · by_cases c4 : n ≤ 1000000000000000000
        · exact absurd ⟨c1, c2, c3, c4⟩ h
        · clear h
          have d4 : decide (n ≤ 1000000000000000000) = false := by simpa using c4
          go_enter Try.func40, Try.ntmps40
          go_wp2
          go_ret
          exact ⟨rfl, (Below.refl _ _).alloc (Nat.le_refl _) _⟩
      · clear h
        have d3 : decide (-1000000000000000000 ≤ n) = false := by simpa using c3
        go_enter Try.func40, Try.ntmps40
        go_wp2
        go_ret
        exact ⟨rfl, (Below.refl _ _).alloc (Nat.le_refl _) _⟩
    · clear h
      have d2 : decide (d ≤ 1000000000000000000) = false := by simpa using c2
      go_enter Try.func40, Try.ntmps40
      go_wp2
      go_ret
      exact ⟨rfl, (Below.refl _ _).alloc (Nat.le_refl _) _⟩
  · clear h
    have d1 : decide (1 ≤ d) = false := by simpa using c1
    go_enter Try.func40, Try.ntmps40
    go_wp2
    go_ret
    exact ⟨rfl, (Below.refl _ _).alloc (Nat.le_refl _) _⟩
theorem ris_f_any (n d : Int) (w : World) :
    Calls Try.prog 40 #[.agg #[.int .i64 n, .int .i64 d]] w fun e w' => e = .returned (.bool (isF n d)) ∧ Below w.heap.size w w' := by
  unfold isF
  by_cases h : FR n d
  · rw [decide_eq_true h]; exact ris_f_yes n d w h
  · rw [decide_eq_false h]; exact ris_f_no n d w h
theorem rorder_any (x y : Int) (w : World) :
    Calls Try.prog 44 #[.int .i64 x, .int .i64 y] w fun e w' => e = .returned (.int .i64 (ordI x y)) ∧ Below w.heap.size w w' := by
  rcases ordI_ways x y with ⟨h, e⟩ | ⟨h, e⟩ | ⟨h, e⟩ <;> rw [e] <;> clear e
  · have d1 : decide (x < y) = true := decide_eq_true h
    go_enter Try.func44, Try.ntmps44
    go_wp2
    go_ret
    exact ⟨rfl, by (repeat (first | exact Below.refl _ _ | assumption | refine Below.drew ?_ | refine below_drewN ?_ _ | refine Below.setCell ?_ (by first | omega | (simp; done) | (simp; omega)) _ | refine Below.alloc ?_ (by first | omega | (simp; done) | (simp; omega)) _))⟩
  · have d1 : decide (x < y) = false := decide_eq_false (by omega)
    have d2 : decide (y < x) = false := decide_eq_false (by omega)
    go_enter Try.func44, Try.ntmps44
    go_wp2
    go_ret
    exact ⟨rfl, by (repeat (first | exact Below.refl _ _ | assumption | refine Below.drew ?_ | refine below_drewN ?_ _ | refine Below.setCell ?_ (by first | omega | (simp; done) | (simp; omega)) _ | refine Below.alloc ?_ (by first | omega | (simp; done) | (simp; omega)) _))⟩
  · have d1 : decide (x < y) = false := decide_eq_false (by omega)
    have d2 : decide (y < x) = true := decide_eq_true h
    go_enter Try.func44, Try.ntmps44
    go_wp2
    go_ret
    exact ⟨rfl, by (repeat (first | exact Below.refl _ _ | assumption | refine Below.drew ?_ | refine below_drewN ?_ _ | refine Below.setCell ?_ (by first | omega | (simp; done) | (simp; omega)) _ | refine Below.alloc ?_ (by first | omega | (simp; done) | (simp; omega)) _))⟩
end Go.Proofs.Ytfghjfgdjlkooaa
/-
  The reference's numbers as digits: rows in memory; digit, trim.
-/
namespace Go.Proofs.Ytfghjfgdjlkooaa
open Go.RowKit

/-- The number of k digits from place i on, the least one first. -/
def vs (D : Nat → Int) (i : Nat) : Nat → Int
  | 0 => 0
  | k + 1 => D i + 10 * vs D (i + 1) k
def p10 : Nat → Int
  | 0 => 1
  | k + 1 => 10 * p10 k
theorem p10_pos (k : Nat) : 1 ≤ p10 k := by
  induction k with
  | zero => exact Int.le_refl _
  | succ k ih => show 1 ≤ 10 * p10 k; omega
theorem vs_snoc (D : Nat → Int) (k : Nat) : ∀ i, vs D i (k + 1) = vs D i k + p10 k * D (i + k) := by
  induction k with
  | zero => intro i; show D i + 10 * 0 = 0 + 1 * D (i + 0); rw [Nat.add_zero]; omega
  | succ k ih =>
    intro i
    show D i + 10 * vs D (i + 1) (k + 1) = D i + 10 * vs D (i + 1) k + 10 * p10 k * D (i + (k + 1))
    rw [ih (i + 1), show i + 1 + k = i + (k + 1) from by omega, Int.mul_assoc]
    omega
theorem vs_same {D E : Nat → Int} (k : Nat) : ∀ i, (∀ j, i ≤ j → j < i + k → D j = E j) → vs D i k = vs E i k := by
  induction k with
  | zero => intro i _; rfl
  | succ k ih =>
    intro i h
    show D i + 10 * vs D (i + 1) k = E i + 10 * vs E (i + 1) k
    rw [h i (Nat.le_refl _) (by omega), ih (i + 1) (fun j h1 h2 => h j (by omega) (by omega))]
/-- Digits. -/
def Dg (D : Nat → Int) (n : Nat) : Prop := ∀ i, i < n → 0 ≤ D i ∧ D i ≤ 9
theorem vs_bd {D : Nat → Int} {n : Nat} (h : Dg D n) (k : Nat) : ∀ i, i + k ≤ n → 0 ≤ vs D i k ∧ vs D i k < p10 k := by
  induction k with
  | zero => intro i _; exact ⟨Int.le_refl _, by show (0 : Int) < 1; omega⟩
  | succ k ih =>
    intro i hi
    have h1 := ih (i + 1) (by omega)
    have h2 := h i (by omega)
    show 0 ≤ D i + 10 * vs D (i + 1) k ∧ D i + 10 * vs D (i + 1) k < 10 * p10 k
    omega

/-- A row of ints in memory: the slice 'a, n, c' reads as D 0 .. D (n - 1). -/
def RowF (W : World) (a : Option Addr) (n c : Nat) (D : Nat → Int) : Prop :=
  (a = none ∧ n = 0 ∧ c = 0) ∨ ∃ b off, a = some ⟨b, off, none⟩ ∧ b < W.heap.size ∧ n ≤ c ∧ ∀ i, i < n → W.cell? ⟨b, off + i, none⟩ = some (.int .i64 (D i))
theorem RowF.keep {W W' : World} {a : Option Addr} {n c : Nat} {D : Nat → Int} (h : RowF W a n c D) (hb : Below W.heap.size W W') : RowF W' a n c D := by
  rcases h with h | ⟨b, off, ha, hl, hc, h⟩
  · exact .inl h
  · exact .inr ⟨b, off, ha, Nat.lt_of_lt_of_le hl hb.size, hc, fun i hi => keepc hb (h i hi)⟩
theorem RowF.le {W : World} {a : Option Addr} {n c : Nat} {D : Nat → Int} (h : RowF W a n c D) : n ≤ c := by
  rcases h with ⟨_, rfl, rfl⟩ | ⟨b, off, ha, hl, hc, h⟩
  · exact Nat.le_refl _
  · exact hc
theorem RowF.at {W : World} {a : Option Addr} {n c : Nat} {D : Nat → Int} (h : RowF W a n c D) {i : Nat} (hi : i < n) : ∃ b off, a = some ⟨b, off, none⟩ ∧ b < W.heap.size ∧ ∀ i, i < n → W.cell? ⟨b, off + i, none⟩ = some (.int .i64 (D i)) := by
  rcases h with ⟨_, h, _⟩ | ⟨b, off, ha, hl, hc, h⟩
  · omega
  · exact ⟨b, off, ha, hl, h⟩
/-- The digit at a place; behind the last one 0. -/
def dgt (D : Nat → Int) (n : Nat) (i : Nat) : Int := if i < n then D i else 0
theorem dgt_Dg {D : Nat → Int} {n : Nat} (h : Dg D n) (i : Nat) : 0 ≤ dgt D n i ∧ dgt D n i ≤ 9 := by
  unfold dgt; split
  · exact h i (by assumption)
  · omega

set_option maxHeartbeats 400000 in
theorem digit_any (s : Bool) (a : Option Addr) (n c : Nat) (D : Nat → Int) (i : Nat) (w : World) (hr : RowF w a n c D) (_ : n ≤ 9223372036854775807) (_ : i ≤ 9223372036854775807) :
    Calls Try.prog 71 #[.agg #[.bool s, .slice a n c], .int .i64 i] w fun e w' => e = .returned (.int .i64 (dgt D n i)) ∧ Below w.heap.size w w' := by
  unfold dgt
  by_cases hlt : i < n
  · rw [if_pos hlt]
    obtain ⟨b, off, rfl, hl, h⟩ := hr.at hlt
    have h1 : (w.alloc (.cells #[.bool s, .slice (some ⟨b, off, none⟩) n c] 70)).cell? ⟨b, off + i, none⟩ = some (.int .i64 (D i)) := keepa (h i hlt)
    clear hr h
    go_enter Try.func71, Try.ntmps71
    go_wp2
    go_ret
    exact ⟨rfl, (Below.refl _ _).alloc (Nat.le_refl _) _⟩
  · rw [if_neg hlt]
    clear hr
    go_enter Try.func71, Try.ntmps71
    go_wp2
    go_ret
    exact ⟨rfl, (Below.refl _ _).alloc (Nat.le_refl _) _⟩

/-- How many are left without zeros at the end. -/
def tl (D : Nat → Int) : Nat → Nat
  | 0 => 0
  | n + 1 => if D n = 0 then tl D n else n + 1
theorem tl_le (D : Nat → Int) (n : Nat) : tl D n ≤ n := by
  induction n with
  | zero => exact Nat.le_refl _
  | succ n ih => unfold tl; split <;> omega
theorem tl_vs (D : Nat → Int) (n : Nat) : vs D 0 (tl D n) = vs D 0 n := by
  induction n with
  | zero => rfl
  | succ n ih =>
    unfold tl; split
    · rename_i h; rw [ih, vs_snoc, Nat.zero_add, h]; omega
    · rfl
theorem tl_top (D : Nat → Int) (n : Nat) : tl D n = 0 ∨ D (tl D n - 1) ≠ 0 := by
  induction n with
  | zero => exact .inl rfl
  | succ n ih =>
    unfold tl; split
    · exact ih
    · rename_i h; exact .inr h

set_option maxHeartbeats 400000 in
theorem trim_row (s : Bool) (b off n c : Nat) (D : Nat → Int) (w : World) (hn : n ≤ c) (hc : c ≤ 9223372036854775807) (h : ∀ i, i < n → w.cell? ⟨b, off + i, none⟩ = some (.int .i64 (D i))) :
    Calls Try.prog 53 #[.bool s, .slice (some ⟨b, off, none⟩) n c] w fun e w' => e = .returned (.agg #[.bool (s && decide (0 < tl D n)), .slice (some ⟨b, off, none⟩) (tl D n) c]) ∧ Below w.heap.size w w' := by
  have h' : ∀ i, i < n → (w.alloc (.cells #[.bool false, .slice none 0 0] 70)).cell? ⟨b, off + i, none⟩ = some (.int .i64 (D i)) := fun i hi => keepa (h i hi)
  have HC := Lib.hid h'
  clear h h'
  go_enter Try.func53, Try.ntmps53
  go_wp2
  go_loop [5] (fun v => ∃ k : Nat, k ≤ n ∧ v = .int .i64 k ∧ tl D k = tl D n) (fun v => (intOf v).toNat)
  case atStart => exact ⟨n, Nat.le_refl _, rfl, rfl⟩
  case round =>
    obtain ⟨k, hk, rfl, ht⟩ := hrel
    have HT := Lib.hid ht
    clear ht
    by_cases hz : k = 0
    · subst hz
      have e0 : tl D n = 0 := HT.out.symm
      cases s
      all_goals
        go_wp2
        exact bodyPost_ret (v := .agg #[.bool false, .slice (some ⟨b, off, none⟩) 0 c]) (by simp [results, Try.results53, go_sem]) rfl ⟨rfl, by (repeat (first | exact Below.refl _ _ | assumption | refine Below.drew ?_ | refine below_drewN ?_ _ | refine Below.setCell ?_ (by first | omega | (simp; done) | (simp; omega)) _ | refine Below.alloc ?_ (by first | omega | (simp; done) | (simp; omega)) _))⟩
    · obtain ⟨j, rfl⟩ : ∃ j, k = j + 1 := ⟨k - 1, by omega⟩
      have hc0 := HC.out j (by omega)
      by_cases hd : D j = 0
      · have dz : (D j == 0) = true := by rw [beq_iff_eq]; exact hd
        have HD := Lib.hid hd
        clear hd
        go_wp2
        go_round
        case rel => exact ⟨j, by omega, rfl, by have this : (if D j = 0 then tl D j else j + 1) = tl D n := HT.out; rw [if_pos HD.out] at this; exact this⟩
        case measure => simp [intOf]
      · have dz : (D j == 0) = false := by rw [beq_eq_false_iff_ne]; exact hd
        have e0 : tl D n = j + 1 := by have this : (if D j = 0 then tl D j else j + 1) = tl D n := HT.out; rw [if_neg hd] at this; exact this.symm
        clear hd
        cases s
        · go_wp2
          exact bodyPost_ret (v := .agg #[.bool false, .slice (some ⟨b, off, none⟩) (j + 1) c]) (by simp [results, Try.results53, go_sem]) rfl ⟨rfl, by (repeat (first | exact Below.refl _ _ | assumption | refine Below.drew ?_ | refine below_drewN ?_ _ | refine Below.setCell ?_ (by first | omega | (simp; done) | (simp; omega)) _ | refine Below.alloc ?_ (by first | omega | (simp; done) | (simp; omega)) _))⟩
        · go_wp2
          exact bodyPost_ret (v := .agg #[.bool true, .slice (some ⟨b, off, none⟩) (j + 1) c]) (by simp [results, Try.results53, go_sem]) rfl ⟨rfl, by (repeat (first | exact Below.refl _ _ | assumption | refine Below.drew ?_ | refine below_drewN ?_ _ | refine Below.setCell ?_ (by first | omega | (simp; done) | (simp; omega)) _ | refine Below.alloc ?_ (by first | omega | (simp; done) | (simp; omega)) _))⟩
set_option maxHeartbeats 400000 in
theorem trim_nil (s : Bool) (w : World) :
    Calls Try.prog 53 #[.bool s, .slice none 0 0] w fun e w' => e = .returned (.agg #[.bool false, .slice none 0 0]) ∧ Below w.heap.size w w' := by
  cases s
  all_goals
    go_enter Try.func53, Try.ntmps53
    go_wp2
    refine wp_loop_rounds 1 ?_
    rw [rounds_succ]
    go_wp2
    exact bodyPost_ret (v := .agg #[.bool false, .slice none 0 0]) (by simp [results, Try.results53, go_sem]) rfl ⟨rfl, by (repeat (first | exact Below.refl _ _ | assumption | refine Below.drew ?_ | refine below_drewN ?_ _ | refine Below.setCell ?_ (by first | omega | (simp; done) | (simp; omega)) _ | refine Below.alloc ?_ (by first | omega | (simp; done) | (simp; omega)) _))⟩
theorem trim_any (s : Bool) (a : Option Addr) (n c : Nat) (D : Nat → Int) (w : World) (hr : RowF w a n c D) (hc : c ≤ 9223372036854775807) :
    Calls Try.prog 53 #[.bool s, .slice a n c] w fun e w' => e = .returned (.agg #[.bool (s && decide (0 < tl D n)), .slice a (tl D n) c]) ∧ Below w.heap.size w w' := by
  rcases hr with ⟨rfl, rfl, rfl⟩ | ⟨b, off, rfl, hl, hn, h⟩
  · have := trim_nil s w
    simpa [tl] using this
  · exact trim_row s b off n c D w hn hc h
end Go.Proofs.Ytfghjfgdjlkooaa
/-
  The reference's numbers as digits: OfInt.
-/
namespace Go.Proofs.Ytfghjfgdjlkooaa
open Go.RowKit

theorem infoI : (Try.prog.info? 3).map (fun i => (i.zero, i.size, i.bytes)) = some (some (.int .i64 0), 1, 8) := by kernel_rfl
/-- The values of the first k. -/
def upto (D : Nat → Int) (k : Nat) : List Value := (List.range k).map fun i => .int .i64 (D i)
theorem upto_succ (D : Nat → Int) (k : Nat) : upto D (k + 1) = upto D k ++ [.int .i64 (D k)] := by
  unfold upto; rw [List.range_succ, List.map_append]; rfl
theorem upto_at (D : Nat → Int) (k i : Nat) (h : i < k) : (upto D k)[i]? = some (.int .i64 (D i)) := by
  unfold upto; simp [h]
theorem addr_add (g o i : Nat) : (⟨g, o, none⟩ : Addr).add i = ⟨g, o + i, none⟩ := by
  unfold Addr.add; split
  · rename_i h; rw [h, Nat.add_zero]
  · rfl
/-- A row of the call's own, read. -/
theorem row_of_own {w : World} {base k : Nat} {v : Value} {D : Nat → Int} (h : w.ownsRow base 3 1 v k (upto D k)) : ∃ a c, v = .slice a k c ∧ RowF w a k c D ∧ c ≤ 9223372036854775807 ∧ (∀ b off, a = some ⟨b, off, none⟩ → base ≤ b) := by
  have hc := fun (g : Nat) (hg : v.ownBlock = some g) => h.cells hg
  have hl := h.lt
  obtain ⟨h1, ⟨rfl, rfl⟩ | ⟨g, cap, cur, rfl, hb, hh, hk, hm, _, _⟩⟩ := h
  · exact ⟨none, 0, rfl, .inl ⟨rfl, rfl, rfl⟩, by omega, fun _ _ e => by cases e⟩
  · refine ⟨_, cap, rfl, .inr ⟨g, 0, rfl, (hl g rfl).2, hk, fun i hi => ?_⟩, by unfold maxLen at hm; omega, fun b off e => by cases e; exact hb⟩
    have := hc g rfl i _ (upto_at D k i hi)
    rw [addr_add] at this
    exact this

/-- A value of the reference's type Num that stands for N: its side, and its digits, the least one first, no 0 at the end. -/
def NumV (W : World) (v : Value) (N : Int) : Prop :=
  ∃ a n c D, v = .agg #[.bool (decide (N < 0)), .slice a n c] ∧ RowF W a n c D ∧ c ≤ 9223372036854775807 ∧ Dg D n ∧ (n = 0 ∨ D (n - 1) ≠ 0) ∧ vs D 0 n = N.natAbs
theorem NumV.keep {W W' : World} {v : Value} {N : Int} (h : NumV W v N) (hb : Below W.heap.size W W') : NumV W' v N := by
  obtain ⟨a, n, c, D, h1, h2, h3⟩ := h
  exact ⟨a, n, c, D, h1, h2.keep hb, h3⟩
def RetNum (N : Int) (w : World) (e : Ending) (w' : World) : Prop := Below w.heap.size w w' ∧ ∃ v, e = .returned v ∧ NumV w' v N

theorem RowF.sub {W : World} {a : Option Addr} {n m c : Nat} {D : Nat → Int} (h : RowF W a n c D) (hm : m ≤ n) : RowF W a m c D := by
  rcases h with ⟨h1, h2, h3⟩ | ⟨b, off, ha, hl, hc, h⟩
  · exact .inl ⟨h1, by omega, h3⟩
  · exact .inr ⟨b, off, ha, hl, by omega, fun i hi => h i (by omega)⟩
/-- A cell of another block written. -/
theorem RowF.set {W : World} {a : Option Addr} {n c : Nat} {D : Nat → Int} (h : RowF W a n c D) {p : Addr} (hp : ∀ b off, a = some ⟨b, off, none⟩ → b ≠ p.block) (v : Value) : RowF (W.setCell p v) a n c D := by
  rcases h with h | ⟨b, off, ha, hl, hc, h⟩
  · exact .inl h
  · refine .inr ⟨b, off, ha, Nat.lt_of_lt_of_le hl ((Below.refl 0 W).setCell (Nat.zero_le _) v).size, hc, fun i hi => ?_⟩
    exact (World.cell?_of_block (w := W) (w' := W.setCell p v) (Below.heap_setCell W p v b (hp b off ha))).trans (h i hi)
theorem num_of_trim {W : World} {s : Bool} {a : Option Addr} {n c : Nat} {D : Nat → Int} (hr : RowF W a n c D) (hc : c ≤ 9223372036854775807) (hd : Dg D n) :
    NumV W (.agg #[.bool (s && decide (0 < tl D n)), .slice a (tl D n) c]) (if s then -(vs D 0 n) else vs D 0 n) := by
  have hle := tl_le D n
  have hv := tl_vs D n
  have hd' : Dg D (tl D n) := fun i hi => hd i (by omega)
  have b0 := vs_bd hd' (tl D n) 0 (by omega)
  have hz : (0 < tl D n) ↔ 0 < vs D 0 n := by
    constructor
    · intro h
      rcases tl_top D n with h0 | h0
      · omega
      · obtain ⟨j, hj⟩ : ∃ j, tl D n = j + 1 := ⟨tl D n - 1, by omega⟩
        rw [hj] at h0 b0
        have e := vs_snoc D j 0
        have b1 := vs_bd hd' j 0 (by omega)
        have t := hd' j (by omega)
        have p := p10_pos j
        rw [← hv, hj, e, Nat.zero_add]
        have h0' : D j ≠ 0 := h0
        have : p10 j * 1 ≤ p10 j * D j := Int.mul_le_mul_of_nonneg_left (by omega) (by omega)
        omega
    · intro h
      rcases Nat.eq_zero_or_pos (tl D n) with h0 | h0
      · rw [h0] at hv
        have : vs D 0 0 = 0 := rfl
        omega
      · exact h0
  refine ⟨a, tl D n, c, D, ?_, hr.sub hle, hc, hd', tl_top D n, ?_⟩
  · cases s
    · simp only [Bool.false_and, Bool.false_eq_true, if_false]
      rw [decide_eq_false (by omega)]
    · simp only [Bool.true_and, if_true]
      have : decide (0 < tl D n) = decide (-(vs D 0 n) < 0) := decide_eq_decide.2 (by omega)
      rw [this]
  · rw [hv]
    cases s
    · simp only [Bool.false_eq_true, if_false]; omega
    · simp only [if_true]; omega

def mk (m : Nat) : Nat → Nat
  | 0 => m
  | k + 1 => mk m k / 10
def dOf (m : Nat) (i : Nat) : Int := (mk m i % 10 : Nat)
theorem dOf_Dg (m n : Nat) : Dg (dOf m) n := fun i _ => by unfold dOf; omega
theorem dOf_vs (m k : Nat) : ∀ i, vs (dOf m) i k + p10 k * (mk m (i + k) : Nat) = (mk m i : Nat) := by
  induction k with
  | zero => intro i; show 0 + 1 * ((mk m i : Nat) : Int) = _; omega
  | succ k ih =>
    intro i
    have h := ih (i + 1)
    rw [show i + 1 + k = i + (k + 1) from by omega] at h
    show dOf m i + 10 * vs (dOf m) (i + 1) k + 10 * p10 k * _ = _
    rw [Int.mul_assoc]
    have e : mk m (i + 1) = mk m i / 10 := rfl
    have e2 : dOf m i = ((mk m i % 10 : Nat) : Int) := rfl
    rw [e2]
    omega

theorem own_keep {w w' : World} {base : Nat} {v : Value} {n : Nat} {xs : List Value} (h : w.ownsRow base 3 1 v n xs) (hb : Below w.heap.size w w') : w'.ownsRow base 3 1 v n xs :=
  h.kept (row := none) ⟨hb.os, hb.tape, hb.output, hb.size, fun k hk _ => hb.block k hk⟩ (by
    rcases h.2 with ⟨rfl, _⟩ | ⟨g, cap, cur, rfl, _⟩
    · exact .inl rfl
    · exact .inr (by simp [Value.ownBlock]))

theorem mk_lt (n k : Nat) (hk : k + 1 ≤ 19) (h : (mk n k : Int) < p10 (19 - k)) : (mk n (k + 1) : Int) < p10 (19 - (k + 1)) := by
  rw [show 19 - k = (19 - (k + 1)) + 1 from by omega] at h
  have e : p10 (19 - (k + 1) + 1) = 10 * p10 (19 - (k + 1)) := rfl
  have e1 : mk n (k + 1) = mk n k / 10 := rfl
  omega
/-- What the loop leaves, and trim makes of it. -/
theorem ofInt_end {W : World} {a : Option Addr} {n k c : Nat} (hz : mk n k = 0) (hr : RowF W a k c (dOf n)) (hc : c ≤ 9223372036854775807) (s : Bool) :
    NumV W (.agg #[.bool (s && decide (0 < tl (dOf n) k)), .slice a (tl (dOf n) k) c]) (if s then -(n : Int) else n) := by
  have h := num_of_trim (s := s) hr hc (dOf_Dg n k)
  have e := dOf_vs n k 0
  rw [Nat.zero_add, hz] at e
  have e0 : mk n 0 = n := rfl
  rw [e0] at e
  have e1 : vs (dOf n) 0 k = (n : Int) := by simpa using e
  rw [e1] at h
  exact h

set_option maxRecDepth 100000 in
set_option maxHeartbeats 1000000 in
theorem ofInt_pos (n : Nat) (w : World) (hn : n ≤ 9223372036854775807) :
    Calls Try.prog 42 #[.int .i64 (n : Int)] w (RetNum (n : Int) w) := by
  obtain ⟨i0, hi, hz0, hz1, hz2⟩ := info_parts infoI
  go_enter Try.func42, Try.ntmps42
  go_wp2_with fail
  go_loopw [0, 3] (fun x v wr => ∃ k : Nat, k ≤ 19 ∧ x = .int .i64 (mk n k : Nat) ∧ mk n k ≤ n ∧ (mk n k : Int) < p10 (19 - k) ∧ wr.ownsRow (w.heap.size + 1) 3 1 v k (upto (dOf n) k) ∧ Below w.heap.size w wr ∧ w.heap.size < wr.heap.size ∧ wr.cell? ⟨w.heap.size, 0, none⟩ = some (.bool false) ∧ wr.cell? ⟨w.heap.size, 1, none⟩ = some (.slice none 0 0) ∧ (∀ o, wr.frozen? ⟨w.heap.size, o, none⟩ = false))
    (fun x _ _ => (intOf x).toNat)
  case atStart => exact ⟨0, by omega, rfl, Nat.le_refl _, by show (n : Int) < 10000000000000000000; omega, World.ownsRow_nil _ _ _ _, by (repeat (first | exact Below.refl _ _ | assumption | refine Below.drew ?_ | refine below_drewN ?_ _ | refine Below.setCell ?_ (by first | omega | (simp; done) | (simp; omega)) _ | refine Below.alloc ?_ (by first | omega | (simp; done) | (simp; omega)) _)), by simp, by simp, by simp, by simp⟩
  case round =>
    obtain ⟨k, hk, rfl, hm, hp, hown, hB, hz, r0, r1, r2⟩ := hrel
    have HP := Lib.hid hp
    have HB := Lib.hid hB
    clear hp hB
    by_cases h0 : mk n k = 0
    · obtain ⟨a, c, rfl, hrow, hc, hblk⟩ := row_of_own hown
      have hB := HB.out
      clear HP hm hown
      have b0 : ((mk n k : Nat) : Int) = 0 := by omega
      have b1 : (((mk n k : Nat) : Int) != 0) = false := by rw [b0]; rfl
      have H0 := Lib.hid h0
      clear h0
      go_wp2_with ((go_at_call 53; refine ((trim_any _ _ _ _ (dOf n) _ hrow hc)).mono ?_; rintro e w1 ⟨rfl, hb1⟩; have hB1 : Below w.heap.size w w1 := (by refine Below.trans ?_ (hb1.mono (by first | omega | (simp; done) | (simp; omega))); (repeat (first | exact Below.refl _ _ | assumption | refine Below.drew ?_ | refine below_drewN ?_ _ | refine Below.setCell ?_ (by first | omega | (simp; done) | (simp; omega)) _ | refine Below.alloc ?_ (by first | omega | (simp; done) | (simp; omega)) _))); have hsz1 : w.heap.size ≤ w1.heap.size := hB1.size; replace r0 := keepc hb1 (by first | exact r0 | exact keepa r0 | exact keepa (keepa r0) | (simp [go_sem, *]; done)); replace r1 := keepc hb1 (by first | exact r1 | exact keepa r1 | exact keepa (keepa r1) | (simp [go_sem, *]; done))); have f0 := (hb1.frozen (p := ⟨w.heap.size, 0, none⟩) hz).trans (r2 0); have f1 := (hb1.frozen (p := ⟨w.heap.size, 1, none⟩) hz).trans (r2 1))
      rw [decide_eq_false (show ¬ ((n : Int) < 0) from by omega)] at *
      have hnum := ofInt_end H0.out (((hrow.keep hb1).set (p := ⟨w.heap.size, 0, none⟩) (fun b off e => by have := hblk b off e; simp; omega) (.bool (false && decide (0 < tl (dOf n) k)))).set (p := ⟨w.heap.size, 1, none⟩) (fun b off e => by have := hblk b off e; simp; omega) (.slice a (tl (dOf n) k) c)) hc false
      exact bodyPost_ret (v := .agg #[.bool (false && decide (0 < tl (dOf n) k)), .slice a (tl (dOf n) k) c]) (by simp [results, Try.results42, go_sem, *]) rfl ⟨by (repeat (first | exact Below.refl _ _ | assumption | refine Below.drew ?_ | refine below_drewN ?_ _ | refine Below.setCell ?_ (by first | omega | (simp; done) | (simp; omega)) _ | refine Below.alloc ?_ (by first | omega | (simp; done) | (simp; omega)) _)), _, rfl, by simpa using hnum⟩
    · have hk' : k + 1 ≤ 19 := by
        rcases Nat.lt_or_ge k 19 with h | h
        · exact h
        · have : k = 19 := by omega
          subst this
          have := HP.out
          have e : p10 (19 - 19) = 1 := rfl
          omega
      have hD : dOf n k = ((mk n k : Nat) : Int) % 10 := by unfold dOf; omega
      have HD := Lib.hid hD
      have HN := Lib.hid (show mk n (k + 1) = mk n k / 10 from rfl)
      have HU := Lib.hid (upto_succ (dOf n) k)
      have HL := Lib.hid (mk_lt n k hk' HP.out)
      generalize hM : mk n k = M at *
      have h0' : ((M : Int) == 0) = false := by rw [beq_eq_false_iff_ne]; omega
      clear hD hM
      have hw0 : w.heap.size + 1 ≤ wr.heap.size := hz
      go_wp2_with (first
        | (at_builtin; refine wpList_append_own _ rfl _ _ 68 rfl (w.heap.size + 1) 3 i0 (.int .i64 0) 1 8 Try.underlying68 hi hz0 hz1 hz2 rfl (by decide) _ _ _ rfl (hown.alloc _) ⟨wr.heap.size, 0, none⟩ 1 1 [.int .i64 ((M : Int) % 10)] rfl rfl ?c1 ?c2 ?c3 ?c4 ?c5 ?_))
      case c1 =>
        intro j u hj
        match j, hj with
        | 0, hj => simp at hj; subst hj; simp [Addr.add]
      case c2 => intro u hu; simp at hu; subst hu; rfl
      case c3 => unfold maxLen; omega
      case c4 => omega
      case c5 => simp; omega
      intro v' w1 hown' hgrow _
      have hob : ∀ g, u3.ownBlock = some g → w.heap.size + 1 ≤ g := fun g hg => (hown.lt g hg).1
      have hB1 : Below w.heap.size w w1 := ((HB.out.alloc (by omega) _).grown hgrow (by simp; omega) (fun g hg => by have := hob g hg; omega))
      have hBr : Below (w.heap.size + 1) wr w1 := (((Below.refl (w.heap.size + 1) wr).alloc (by omega) _).grown hgrow (by simp; omega) (fun g hg => hob g hg))
      have s0 : w1.cell? ⟨w.heap.size, 0, none⟩ = some (.bool false) := (hBr.cell (p := ⟨w.heap.size, 0, none⟩) (Nat.lt_succ_self _)).trans r0
      have s1 : w1.cell? ⟨w.heap.size, 1, none⟩ = some (.slice none 0 0) := (hBr.cell (p := ⟨w.heap.size, 1, none⟩) (Nat.lt_succ_self _)).trans r1
      have s2 : ∀ o, w1.frozen? ⟨w.heap.size, o, none⟩ = false := fun o => (hBr.frozen (p := ⟨w.heap.size, o, none⟩) (Nat.lt_succ_self _)).trans (r2 o)
      have s3 : w.heap.size < w1.heap.size := cell_lt s0
      rw [← HD.out, ← HU.out] at hown'
      have hdiv : ((M : Int) / 10) = ((M / 10 : Nat) : Int) := by omega
      have X := Lib.hid (And.intro hown' (And.intro hB1 (And.intro s0 (And.intro s1 s2))))
      clear hown' hgrow hown hB1 hBr s0 s1 s2 hob r0 r1 r2 hdiv
      go_wp2
      go_roundw
      case rel =>
        obtain ⟨x1, x2, x3, x4, x5⟩ := X.out
        exact ⟨k + 1, hk', by rw [HN.out]; exact congrArg (Value.int .i64) (by omega), by rw [HN.out]; omega, HL.out, x1, x2, s3, x3, x4, x5⟩
      case measure => simp [intOf]; omega
set_option maxRecDepth 100000 in
set_option maxHeartbeats 1000000 in
theorem ofInt_neg (n : Nat) (w : World) (hn : n ≤ 9223372036854775808) (hp0 : 0 < n) :
    Calls Try.prog 42 #[.int .i64 (-(n : Int))] w (RetNum (-(n : Int)) w) := by
  obtain ⟨i0, hi, hz0, hz1, hz2⟩ := info_parts infoI
  go_enter Try.func42, Try.ntmps42
  go_wp2_with fail
  go_loopw [0, 3] (fun x v wr => ∃ k : Nat, k ≤ 19 ∧ x = .int .i64 (-((mk n k : Nat) : Int)) ∧ mk n k ≤ n ∧ (mk n k : Int) < p10 (19 - k) ∧ wr.ownsRow (w.heap.size + 1) 3 1 v k (upto (dOf n) k) ∧ Below w.heap.size w wr ∧ w.heap.size < wr.heap.size ∧ wr.cell? ⟨w.heap.size, 0, none⟩ = some (.bool false) ∧ wr.cell? ⟨w.heap.size, 1, none⟩ = some (.slice none 0 0) ∧ (∀ o, wr.frozen? ⟨w.heap.size, o, none⟩ = false))
    (fun x _ _ => (-(intOf x)).toNat)
  case atStart => exact ⟨0, by omega, rfl, Nat.le_refl _, by show (n : Int) < 10000000000000000000; omega, World.ownsRow_nil _ _ _ _, by (repeat (first | exact Below.refl _ _ | assumption | refine Below.drew ?_ | refine below_drewN ?_ _ | refine Below.setCell ?_ (by first | omega | (simp; done) | (simp; omega)) _ | refine Below.alloc ?_ (by first | omega | (simp; done) | (simp; omega)) _)), by simp, by simp, by simp, by simp⟩
  case round =>
    obtain ⟨k, hk, rfl, hm, hp, hown, hB, hz, r0, r1, r2⟩ := hrel
    have HP := Lib.hid hp
    have HB := Lib.hid hB
    clear hp hB
    by_cases h0 : mk n k = 0
    · obtain ⟨a, c, rfl, hrow, hc, hblk⟩ := row_of_own hown
      have hB := HB.out
      clear HP hm hown
      have b0 : -((mk n k : Nat) : Int) = 0 := by omega
      have b1 : ((-((mk n k : Nat) : Int)) != 0) = false := by rw [b0]; rfl
      have H0 := Lib.hid h0
      clear h0
      go_wp2_with ((go_at_call 53; refine ((trim_any _ _ _ _ (dOf n) _ hrow hc)).mono ?_; rintro e w1 ⟨rfl, hb1⟩; have hB1 : Below w.heap.size w w1 := (by refine Below.trans ?_ (hb1.mono (by first | omega | (simp; done) | (simp; omega))); (repeat (first | exact Below.refl _ _ | assumption | refine Below.drew ?_ | refine below_drewN ?_ _ | refine Below.setCell ?_ (by first | omega | (simp; done) | (simp; omega)) _ | refine Below.alloc ?_ (by first | omega | (simp; done) | (simp; omega)) _))); have hsz1 : w.heap.size ≤ w1.heap.size := hB1.size; replace r0 := keepc hb1 (by first | exact r0 | exact keepa r0 | exact keepa (keepa r0) | (simp [go_sem, *]; done)); replace r1 := keepc hb1 (by first | exact r1 | exact keepa r1 | exact keepa (keepa r1) | (simp [go_sem, *]; done))); have f0 := (hb1.frozen (p := ⟨w.heap.size, 0, none⟩) hz).trans (r2 0); have f1 := (hb1.frozen (p := ⟨w.heap.size, 1, none⟩) hz).trans (r2 1))
      have hnum := ofInt_end H0.out (((hrow.keep hb1).set (p := ⟨w.heap.size, 0, none⟩) (fun b off e => by have := hblk b off e; simp; omega) (.bool (decide (0 < tl (dOf n) k)))).set (p := ⟨w.heap.size, 1, none⟩) (fun b off e => by have := hblk b off e; simp; omega) (.slice a (tl (dOf n) k) c)) hc true
      exact bodyPost_ret (v := .agg #[.bool (decide (0 < tl (dOf n) k)), .slice a (tl (dOf n) k) c]) (by simp [results, Try.results42, go_sem, *]) rfl ⟨by (repeat (first | exact Below.refl _ _ | assumption | refine Below.drew ?_ | refine below_drewN ?_ _ | refine Below.setCell ?_ (by first | omega | (simp; done) | (simp; omega)) _ | refine Below.alloc ?_ (by first | omega | (simp; done) | (simp; omega)) _)), _, rfl, by simpa using hnum⟩
    · have hk' : k + 1 ≤ 19 := by
        rcases Nat.lt_or_ge k 19 with h | h
        · exact h
        · have : k = 19 := by omega
          subst this
          have := HP.out
          have e : p10 (19 - 19) = 1 := rfl
          omega
      have hD : dOf n k = ((mk n k : Nat) : Int) % 10 := by unfold dOf; omega
      have HD := Lib.hid hD
      have HN := Lib.hid (show mk n (k + 1) = mk n k / 10 from rfl)
      have HU := Lib.hid (upto_succ (dOf n) k)
      have HL := Lib.hid (mk_lt n k hk' HP.out)
      generalize hM : mk n k = M at *
      have h0' : ((-(M : Int)) == 0) = false := by rw [beq_eq_false_iff_ne]; omega
      have hr : (-(M : Int)).tmod 10 = -((M : Int) % 10) := by rw [Int.neg_tmod, Int.tmod_eq_emod_of_nonneg (by omega)]
      have hq : (-(M : Int)).tdiv 10 = -((M : Int) / 10) := by rw [Int.neg_tdiv, Int.tdiv_eq_ediv_of_nonneg (by omega)]
      clear hD hM
      have hw0 : w.heap.size + 1 ≤ wr.heap.size := hz
      by_cases hz : (M : Int) % 10 = 0
      · have HD0 := Lib.hid (HD.out.trans hz)
        go_wp2_with (first
          | (at_builtin; refine wpList_append_own _ rfl _ _ 68 rfl (w.heap.size + 1) 3 i0 (.int .i64 0) 1 8 Try.underlying68 hi hz0 hz1 hz2 rfl (by decide) _ _ _ rfl (hown.alloc _) ⟨wr.heap.size, 0, none⟩ 1 1 [.int .i64 0] rfl rfl ?c1 ?c2 ?c3 ?c4 ?c5 ?_))
        case c1 =>
          intro j u hj
          match j, hj with
          | 0, hj => simp at hj; subst hj; simp [Addr.add]
        case c2 => intro u hu; simp at hu; subst hu; rfl
        case c3 => unfold maxLen; omega
        case c4 => omega
        case c5 => simp; omega
        intro v' w1 hown' hgrow _
        have hob : ∀ g, u3.ownBlock = some g → w.heap.size + 1 ≤ g := fun g hg => (hown.lt g hg).1
        have hB1 : Below w.heap.size w w1 := ((HB.out.alloc (by omega) _).grown hgrow (by simp; omega) (fun g hg => by have := hob g hg; omega))
        have hBr : Below (w.heap.size + 1) wr w1 := (((Below.refl (w.heap.size + 1) wr).alloc (by omega) _).grown hgrow (by simp; omega) (fun g hg => hob g hg))
        have s0 : w1.cell? ⟨w.heap.size, 0, none⟩ = some (.bool false) := (hBr.cell (p := ⟨w.heap.size, 0, none⟩) (Nat.lt_succ_self _)).trans r0
        have s1 : w1.cell? ⟨w.heap.size, 1, none⟩ = some (.slice none 0 0) := (hBr.cell (p := ⟨w.heap.size, 1, none⟩) (Nat.lt_succ_self _)).trans r1
        have s2 : ∀ o, w1.frozen? ⟨w.heap.size, o, none⟩ = false := fun o => (hBr.frozen (p := ⟨w.heap.size, o, none⟩) (Nat.lt_succ_self _)).trans (r2 o)
        have s3 : w.heap.size < w1.heap.size := cell_lt s0
        rw [← HD0.out, ← HU.out] at hown'
        have X := Lib.hid (And.intro hown' (And.intro hB1 (And.intro s0 (And.intro s1 s2))))
        clear hown' hgrow hown hB1 hBr s0 s1 s2 hob r0 r1 r2
        go_wp2
        go_roundw
        case rel =>
          obtain ⟨x1, x2, x3, x4, x5⟩ := X.out
          exact ⟨k + 1, hk', by rw [HN.out]; exact congrArg (Value.int .i64) (by omega), by rw [HN.out]; omega, HL.out, x1, x2, s3, x3, x4, x5⟩
        case measure => simp [intOf]; omega
      · have hz' : (-((M : Int) % 10) < 0) := by omega
        go_wp2_with (first
          | (at_builtin; refine wpList_append_own _ rfl _ _ 68 rfl (w.heap.size + 1) 3 i0 (.int .i64 0) 1 8 Try.underlying68 hi hz0 hz1 hz2 rfl (by decide) _ _ _ rfl (hown.alloc _) ⟨wr.heap.size, 0, none⟩ 1 1 [.int .i64 ((M : Int) % 10)] rfl rfl ?c1 ?c2 ?c3 ?c4 ?c5 ?_))
        case c1 =>
          intro j u hj
          match j, hj with
          | 0, hj => simp at hj; subst hj; simp [Addr.add]
        case c2 => intro u hu; simp at hu; subst hu; rfl
        case c3 => unfold maxLen; omega
        case c4 => omega
        case c5 => simp; omega
        intro v' w1 hown' hgrow _
        have hob : ∀ g, u3.ownBlock = some g → w.heap.size + 1 ≤ g := fun g hg => (hown.lt g hg).1
        have hB1 : Below w.heap.size w w1 := ((HB.out.alloc (by omega) _).grown hgrow (by simp; omega) (fun g hg => by have := hob g hg; omega))
        have hBr : Below (w.heap.size + 1) wr w1 := (((Below.refl (w.heap.size + 1) wr).alloc (by omega) _).grown hgrow (by simp; omega) (fun g hg => hob g hg))
        have s0 : w1.cell? ⟨w.heap.size, 0, none⟩ = some (.bool false) := (hBr.cell (p := ⟨w.heap.size, 0, none⟩) (Nat.lt_succ_self _)).trans r0
        have s1 : w1.cell? ⟨w.heap.size, 1, none⟩ = some (.slice none 0 0) := (hBr.cell (p := ⟨w.heap.size, 1, none⟩) (Nat.lt_succ_self _)).trans r1
        have s2 : ∀ o, w1.frozen? ⟨w.heap.size, o, none⟩ = false := fun o => (hBr.frozen (p := ⟨w.heap.size, o, none⟩) (Nat.lt_succ_self _)).trans (r2 o)
        have s3 : w.heap.size < w1.heap.size := cell_lt s0
        rw [← HD.out, ← HU.out] at hown'
        have X := Lib.hid (And.intro hown' (And.intro hB1 (And.intro s0 (And.intro s1 s2))))
        clear hown' hgrow hown hB1 hBr s0 s1 s2 hob r0 r1 r2
        go_wp2
        go_roundw
        case rel =>
          obtain ⟨x1, x2, x3, x4, x5⟩ := X.out
          exact ⟨k + 1, hk', by rw [HN.out]; exact congrArg (Value.int .i64) (by omega), by rw [HN.out]; omega, HL.out, x1, x2, s3, x3, x4, x5⟩
        case measure => simp [intOf]; omega
theorem ofInt_any (n : Int) (w : World) (h1 : -9223372036854775808 ≤ n) (h2 : n ≤ 9223372036854775807) :
    Calls Try.prog 42 #[.int .i64 n] w (RetNum n w) := by
  rcases Int.lt_or_le n 0 with h | h
  · have := ofInt_neg n.natAbs w (by omega) (by omega)
    rwa [show -((n.natAbs : Nat) : Int) = n from by omega] at this
  · have := ofInt_pos n.natAbs w (by omega)
    rwa [show ((n.natAbs : Nat) : Int) = n from by omega] at this
end Go.Proofs.Ytfghjfgdjlkooaa
/-
  The reference's sums of digits: plus.
-/
namespace Go.Proofs.Ytfghjfgdjlkooaa
open Go.RowKit
open Go.BigFrame

theorem vs_split (D : Nat → Int) (l : Nat) : ∀ k i, vs D i (k + l) = vs D i k + p10 k * vs D (i + k) l := by
  intro k
  induction k with
  | zero => intro i; rw [Nat.zero_add]; show _ = 0 + 1 * vs D (i + 0) l; rw [Nat.add_zero]; omega
  | succ k ih =>
    intro i
    rw [show k + 1 + l = (k + l) + 1 from by omega]
    show D i + 10 * vs D (i + 1) (k + l) = D i + 10 * vs D (i + 1) k + 10 * p10 k * vs D (i + (k + 1)) l
    rw [ih (i + 1), show i + 1 + k = i + (k + 1) from by omega, Int.mul_assoc]
    omega
theorem vs_nought {D : Nat → Int} (k : Nat) : ∀ i, (∀ j, i ≤ j → D j = 0) → vs D i k = 0 := by
  induction k with
  | zero => intro i _; rfl
  | succ k ih =>
    intro i h
    show D i + 10 * vs D (i + 1) k = 0
    rw [h i (Nat.le_refl _), ih (i + 1) (fun j hj => h j (by omega))]; omega
/-- A number's digits, with as many zeros ahead as one likes. -/
theorem vs_dgt (D : Nat → Int) (n k : Nat) (h : n ≤ k) : vs (dgt D n) 0 k = vs D 0 n := by
  obtain ⟨l, rfl⟩ : ∃ l, k = n + l := ⟨k - n, by omega⟩
  rw [vs_split, vs_nought l (0 + n) (fun j hj => by unfold dgt; rw [if_neg (by omega)])]
  rw [vs_same (E := D) n 0 (fun j _ h2 => by unfold dgt; rw [if_pos (by omega)])]
  omega
/-- The carry into a place, and the digit there. -/
def crr (A B : Nat → Int) : Nat → Int
  | 0 => 0
  | i + 1 => (A i + B i + crr A B i) / 10
def sd (A B : Nat → Int) (i : Nat) : Int := (A i + B i + crr A B i) % 10
def Ds (A : Nat → Int) : Prop := ∀ i, 0 ≤ A i ∧ A i ≤ 9
theorem dgt_Ds {D : Nat → Int} {n : Nat} (h : Dg D n) : Ds (dgt D n) := fun i => dgt_Dg h i
theorem crr_bd {A B : Nat → Int} (ha : Ds A) (hb : Ds B) (i : Nat) : 0 ≤ crr A B i ∧ crr A B i ≤ 1 := by
  induction i with
  | zero => exact ⟨Int.le_refl _, by show (0 : Int) ≤ 1; omega⟩
  | succ i ih =>
    have := ha i; have := hb i
    show 0 ≤ (A i + B i + crr A B i) / 10 ∧ (A i + B i + crr A B i) / 10 ≤ 1
    omega
theorem sd_Dg (A B : Nat → Int) (n : Nat) : Dg (sd A B) n := fun i _ => by unfold sd; omega
theorem sd_vs (A B : Nat → Int) (k : Nat) : vs (sd A B) 0 k + p10 k * crr A B k = vs A 0 k + vs B 0 k := by
  induction k with
  | zero => show 0 + 1 * 0 = (0 : Int) + 0; omega
  | succ k ih =>
    rw [vs_snoc, vs_snoc, vs_snoc, Nat.zero_add]
    have e : sd A B k + 10 * crr A B (k + 1) = A k + B k + crr A B k := by
      show (A k + B k + crr A B k) % 10 + 10 * ((A k + B k + crr A B k) / 10) = _; omega
    have e2 : p10 (k + 1) * crr A B (k + 1) = p10 k * (10 * crr A B (k + 1)) := by
      show 10 * p10 k * _ = _; rw [Int.mul_comm 10, Int.mul_assoc]
    have e3 : p10 k * sd A B k + p10 k * (10 * crr A B (k + 1)) = p10 k * A k + p10 k * B k + p10 k * crr A B k := by
      rw [← Int.mul_add, e, Int.mul_add, Int.mul_add]
    rw [e2]; omega
/-- What plus gives back: a row of the call's own. -/
def RetRow (V : Int) (w : World) (e : Ending) (w' : World) : Prop :=
  Below w.heap.size w w' ∧ ∃ a n c D, e = .returned (.slice a n c) ∧ RowF w' a n c D ∧ c ≤ 9223372036854775807 ∧ Dg D n ∧ vs D 0 n = V ∧ (∀ b off, a = some ⟨b, off, none⟩ → w.heap.size ≤ b)

set_option maxRecDepth 100000 in
set_option maxHeartbeats 1000000 in
theorem plus_any (s t : Bool) (a b : Option Addr) (n m c d₁ : Nat) (D E : Nat → Int) (w : World) (ra : RowF w a n c D) (rb : RowF w b m d₁ E) (hn : n ≤ 1000000) (hm : m ≤ 1000000) (da : Dg D n) (db : Dg E m) :
    Calls Try.prog 61 #[.agg #[.bool s, .slice a n c], .agg #[.bool t,   .slice b m d₁]] w (RetRow (vs D 0 n + vs E 0 m) w) := by
  obtain ⟨i0, hi, hz0, hz1, hz2⟩ := info_parts infoI
  have hA := dgt_Ds da
  have hB := dgt_Ds db
  go_enter Try.func61, Try.ntmps61
  go_wp2_with fail
  go_loopw [5, 6, 7] (fun v cr ix wr => ∃ k : Nat, k ≤ max n m + 1 ∧ ix = .int .i64 k ∧ cr = .int .i64 (crr (dgt D n) (dgt E m) k) ∧ wr.ownsRow (w.heap.size + 2) 3 1 v k (upto (sd (dgt D n) (dgt E m)) k) ∧ Below w.heap.size w wr ∧ w.heap.size + 1 < wr.heap.size ∧ wr.cell? ⟨w.heap.size, 0, none⟩ = some (.bool s) ∧ wr.cell? ⟨w.heap.size, 1, none⟩ = some (.slice a n c) ∧ wr.cell? ⟨w.heap.size + 1, 0, none⟩ = some (.bool t) ∧ wr.cell? ⟨w.heap.size + 1, 1, none⟩ = some (.slice b m d₁))
    (fun _ _ ix _ => max n m + 1 - (intOf ix).toNat)
  case atStart => exact ⟨0, by omega, rfl, rfl, World.ownsRow_nil _ _ _ _, by (repeat (first | exact Below.refl _ _ | assumption | refine Below.drew ?_ | refine below_drewN ?_ _ | refine Below.setCell ?_ (by first | omega | (simp; done) | (simp; omega)) _ | refine Below.alloc ?_ (by first | omega | (simp; done) | (simp; omega)) _)), by simp, by simp, by simp, by simp, by simp⟩
  case round =>
    obtain ⟨k, hk, rfl, rfl, hown, hBl, hsz, r0, r1, r2, r3⟩ := hrel
    have q1 := hA k
    have q2 := hB k
    have q3 := crr_bd hA hB k
    have HS := Lib.hid (show sd (dgt D n) (dgt E m) k = (dgt D n k + dgt E m k + crr (dgt D n) (dgt E m) k) % 10 from rfl)
    have HC := Lib.hid (show crr (dgt D n) (dgt E m) (k + 1) = (dgt D n k + dgt E m k + crr (dgt D n) (dgt E m) k) / 10 from rfl)
    have HU := Lib.hid (upto_succ (sd (dgt D n) (dgt E m)) k)
    have RA := Lib.hid ra
    have RB := Lib.hid rb
    have HB := Lib.hid hBl
    clear ra rb hA hB hBl
    by_cases hlt : k < max n m + 1
    · go_upto_region 6 with fail
      have wp1 : IntKind.i64.wrap (dgt D n k + dgt E m k) = dgt D n k + dgt E m k := IntWalk.i64_in _ (by omega)
      have wp2 : IntKind.i64.wrap (dgt D n k + dgt E m k + crr (dgt D n) (dgt E m) k) = dgt D n k + dgt E m k + crr (dgt D n) (dgt E m) k := IntWalk.i64_in _ (by omega)
      have ST := Lib.hid (show Stays (fun W => Below wr.heap.size wr W) from fun W W' h hb => h.trans (hb.mono h.size))
      have CA := Lib.hid (show ∀ x : Of (fun W => Below wr.heap.size wr W), Calls Try.prog 71 #[.agg #[.bool s, .slice a n c], .int .i64 k] x.world fun e w'' => e = .returned (.int .i64 (dgt D n k)) ∧ ∃ d' : Of (fun W => Below wr.heap.size wr W), w'' = d'.world from fun x => class_call ST.out x (digit_any s a n c D k _ ((RA.out.keep HB.out).keep x.holds) (by omega) (by omega)))
      have CB := Lib.hid (show ∀ x : Of (fun W => Below wr.heap.size wr W), Calls Try.prog 71 #[.agg #[.bool t, .slice b m d₁], .int .i64 k] x.world fun e w'' => e = .returned (.int .i64 (dgt E m k)) ∧ ∃ d' : Of (fun W => Below wr.heap.size wr W), w'' = d'.world from fun x => class_call ST.out x (digit_any t b m d₁ E k _ ((RB.out.keep HB.out).keep x.holds) (by omega) (by omega)))
      have ne : Nonempty (Of (fun W => Below wr.heap.size wr W)) := ⟨⟨wr, Below.refl _ _⟩⟩
      have c0 : ∀ d : Of (fun W => Below wr.heap.size wr W), d.world.cell? ⟨w.heap.size, 0, none⟩ = some (.bool s) := fun d => keepc d.holds r0
      have c1 : ∀ d : Of (fun W => Below wr.heap.size wr W), d.world.cell? ⟨w.heap.size, 1, none⟩ = some (.slice a n c) := fun d => keepc d.holds r1
      have c2 : ∀ d : Of (fun W => Below wr.heap.size wr W), d.world.cell? ⟨w.heap.size + 1, 0, none⟩ = some (.bool t) := fun d => keepc d.holds r2
      have c3 : ∀ d : Of (fun W => Below wr.heap.size wr W), d.world.cell? ⟨w.heap.size + 1, 1, none⟩ = some (.slice b m d₁) := fun d => keepc d.holds r3
      refine wp_region_class (S := fun W => Below wr.heap.size wr W) (by kernel_rfl) (by kernel_rfl) (Below.refl _ _).drew ?_
      repeat (go_big_quiet_step (first | (go_at_call 71; with_reducible exact CA.out _) | (go_at_call 71; with_reducible exact CB.out _)))
      refine wpQuiet_nil ?_
      rintro _ ⟨d, rfl⟩
      have HD := Lib.hid d.holds
      have z0 := c0 d
      have z1 := c1 d
      have z2 := c2 d
      have z3 := c3 d
      clear c0 c1 c2 c3
      have hown1 := own_keep hown HD.out
      have hBd : Below w.heap.size w d.world := HB.out.trans (HD.out.mono (by omega))
      have hszd : wr.heap.size ≤ d.world.heap.size := HD.out.size
      generalize d.world = wd at *
      clear CA CB ST ne wp1 wp2 r0 r1 r2 r3 RA RB HB HD hown
      generalize hX : dgt D n k + dgt E m k + crr (dgt D n) (dgt E m) k = X at *
      have hX0 : 0 ≤ X ∧ X ≤ 19 := by omega
      clear hX q1 q2 q3
      go_wp2_with (first
        | (at_builtin; refine wpList_append_own _ rfl _ _ 68 rfl (w.heap.size + 2) 3 i0 (.int .i64 0) 1 8 Try.underlying68 hi hz0 hz1 hz2 rfl (by decide) _ _ _ rfl (hown1.alloc _) ⟨wd.heap.size, 0, none⟩ 1 1 [.int .i64 (X % 10)] rfl rfl ?c1 ?c2 ?c3 ?c4 ?c5 ?_))
      case c1 =>
        intro j u hj
        match j, hj with
        | 0, hj => simp at hj; subst hj; simp [Addr.add]
      case c2 => intro u hu; simp at hu; subst hu; rfl
      case c3 => unfold maxLen; omega
      case c4 => omega
      case c5 => simp; omega
      intro v' w1 hown' hgrow _
      have hob : ∀ g, u5.ownBlock = some g → w.heap.size + 2 ≤ g := fun g hg => (hown1.lt g hg).1
      have hB1 : Below w.heap.size w w1 := ((hBd.alloc (by omega) _).grown hgrow (by simp; omega) (fun g hg => by have := hob g hg; omega))
      have hBr : Below (w.heap.size + 2) wd w1 := (((Below.refl (w.heap.size + 2) wd).alloc (by omega) _).grown hgrow (by simp; omega) (fun g hg => hob g hg))
      have s0 : w1.cell? ⟨w.heap.size, 0, none⟩ = some (.bool s) := (hBr.cell (p := ⟨w.heap.size, 0, none⟩) (show w.heap.size < w.heap.size + 2 by omega)).trans z0
      have s1 : w1.cell? ⟨w.heap.size, 1, none⟩ = some (.slice a n c) := (hBr.cell (p := ⟨w.heap.size, 1, none⟩) (show w.heap.size < w.heap.size + 2 by omega)).trans z1
      have s2 : w1.cell? ⟨w.heap.size + 1, 0, none⟩ = some (.bool t) := (hBr.cell (p := ⟨w.heap.size + 1, 0, none⟩) (show w.heap.size + 1 < w.heap.size + 2 by omega)).trans z2
      have s3 : w1.cell? ⟨w.heap.size + 1, 1, none⟩ = some (.slice b m d₁) := (hBr.cell (p := ⟨w.heap.size + 1, 1, none⟩) (show w.heap.size + 1 < w.heap.size + 2 by omega)).trans z3
      have hz1' : w.heap.size + 1 < w1.heap.size := cell_lt s2
      rw [← HS.out, ← HU.out] at hown'
      have X5 := Lib.hid (And.intro hown' (And.intro hB1 (And.intro hz1' (And.intro s0 (And.intro s1 (And.intro s2 s3))))))
      clear hown' hgrow hown1 hBd hBr hB1 hob s0 s1 s2 s3 z0 z1 z2 z3
      go_wp2
      go_roundw
      case rel => exact ⟨k + 1, by omega, by go_num, by rw [HC.out], X5.out⟩
      case measure => simp [intOf]; omega
    · have hkk : k = max n m + 1 := by omega
      subst hkk
      obtain ⟨x, y, rfl, hrow, hc, hblk⟩ := row_of_own hown
      have HR := Lib.hid (And.intro hrow (And.intro hc hblk))
      clear hown hrow hc hblk
      go_wp2
      refine bodyPost_ret (v := .slice x (max n m + 1) y) (by simp [results, Try.results61, go_sem]) rfl ⟨HB.out, _, _, _, _, rfl, HR.out.1, HR.out.2.1, sd_Dg _ _ _, ?_, fun b off e => by have := HR.out.2.2 b off e; omega⟩
      have e := sd_vs (dgt D n) (dgt E m) (max n m + 1)
      rw [vs_dgt D n _ (by omega), vs_dgt E m _ (by omega)] at e
      have e0 : crr (dgt D n) (dgt E m) (max n m + 1) = 0 := by
        have q := crr_bd (dgt_Ds da) (dgt_Ds db) (max n m)
        have a0 : dgt D n (max n m) = 0 := by unfold dgt; rw [if_neg (by omega)]
        have b0 : dgt E m (max n m) = 0 := by unfold dgt; rw [if_neg (by omega)]
        show (dgt D n (max n m) + dgt E m (max n m) + crr _ _ (max n m)) / 10 = 0
        rw [a0, b0]; omega
      rw [e0] at e; omega
end Go.Proofs.Ytfghjfgdjlkooaa
/-
  The reference's sums of digits: minus, size.
-/
namespace Go.Proofs.Ytfghjfgdjlkooaa
open Go.RowKit
open Go.BigFrame

/-- The borrow out of a place, and the digit there. -/
def brr (A B : Nat → Int) : Nat → Int
  | 0 => 0
  | i + 1 => if A i - B i - brr A B i < 0 then 1 else 0
def rd (A B : Nat → Int) (i : Nat) : Int := (A i - B i - brr A B i) % 10
theorem brr_bd (A B : Nat → Int) (i : Nat) : 0 ≤ brr A B i ∧ brr A B i ≤ 1 := by
  cases i with
  | zero => exact ⟨Int.le_refl _, by show (0 : Int) ≤ 1; omega⟩
  | succ i => unfold brr; split <;> omega
theorem rd_Dg (A B : Nat → Int) (n : Nat) : Dg (rd A B) n := fun i _ => by unfold rd; omega
theorem rd_vs {A B : Nat → Int} (ha : Ds A) (hb : Ds B) (k : Nat) : vs (rd A B) 0 k - p10 k * brr A B k = vs A 0 k - vs B 0 k := by
  induction k with
  | zero => show 0 - 1 * 0 = (0 : Int) - 0; omega
  | succ k ih =>
    rw [vs_snoc, vs_snoc, vs_snoc, Nat.zero_add]
    have q1 := ha k; have q2 := hb k; have q3 := brr_bd A B k
    have e : rd A B k - 10 * brr A B (k + 1) = A k - B k - brr A B k := by
      show (A k - B k - brr A B k) % 10 - 10 * (if A k - B k - brr A B k < 0 then 1 else 0) = _
      split <;> omega
    have e2 : p10 (k + 1) * brr A B (k + 1) = p10 k * (10 * brr A B (k + 1)) := by
      show 10 * p10 k * _ = _; rw [Int.mul_comm 10, Int.mul_assoc]
    have e3 : p10 k * rd A B k - p10 k * (10 * brr A B (k + 1)) = p10 k * A k - p10 k * B k - p10 k * brr A B k := by
      rw [← Int.mul_sub, e, Int.mul_sub, Int.mul_sub]
    rw [e2]; omega
/-- Where the first is not the less one, nothing is left to borrow, and the second's digits lie in the first's places. -/
theorem rd_all {D E : Nat → Int} {n m : Nat} (da : Dg D n) (db : Dg E m) (h : vs E 0 m ≤ vs D 0 n) : vs (rd (dgt D n) (dgt E m)) 0 n = vs D 0 n - vs E 0 m := by
  have e := rd_vs (dgt_Ds da) (dgt_Ds db) n
  rw [vs_dgt D n n (Nat.le_refl _)] at e
  have b1 := vs_bd da n 0 (by omega)
  have b2 := vs_bd (rd_Dg (dgt D n) (dgt E m) n) n 0 (by omega)
  have hE : vs (dgt E m) 0 n = vs E 0 m := by
    have f := vs_split (dgt E m) m n 0
    rw [Nat.zero_add] at f
    have g := vs_dgt E m (n + m) (by omega)
    rw [f] at g
    have b3 := vs_bd (n := n) (D := dgt E m) (fun i _ => dgt_Ds db i) n 0 (by omega)
    have b4 := vs_bd (n := n + m) (D := dgt E m) (fun i _ => dgt_Ds db i) m n (by omega)
    have p := p10_pos n
    have : vs (dgt E m) n m = 0 := by
      rcases Int.lt_or_le 0 (vs (dgt E m) n m) with q | q
      · have : p10 n * 1 ≤ p10 n * vs (dgt E m) n m := Int.mul_le_mul_of_nonneg_left (by omega) (by omega)
        omega
      · omega
    rw [this] at g; omega
  rw [hE] at e
  have q := brr_bd (dgt D n) (dgt E m) n
  have : brr (dgt D n) (dgt E m) n = 0 ∨ brr (dgt D n) (dgt E m) n = 1 := by omega
  rcases this with z | z
  · rw [z] at e; omega
  · rw [z] at e; omega

set_option maxRecDepth 100000 in
set_option maxHeartbeats 1000000 in
theorem minus_any (s t : Bool) (a b : Option Addr) (n m c d₁ : Nat) (D E : Nat → Int) (w : World) (ra : RowF w a n c D) (rb : RowF w b m d₁ E) (hn : n ≤ 1000000) (hm : m ≤ 1000000) (da : Dg D n) (db : Dg E m) (hle : vs E 0 m ≤ vs D 0 n) :
    Calls Try.prog 63 #[.agg #[.bool s, .slice a n c], .agg #[.bool t,   .slice b m d₁]] w (RetRow (vs D 0 n - vs E 0 m) w) := by
  obtain ⟨i0, hi, hz0, hz1, hz2⟩ := info_parts infoI
  have hA := dgt_Ds da
  have hB := dgt_Ds db
  go_enter Try.func63, Try.ntmps63
  go_wp2_with fail
  go_loopw [5, 6, 7] (fun v cr ix wr => ∃ k : Nat, k ≤ n ∧ ix = .int .i64 k ∧ cr = .int .i64 (brr (dgt D n) (dgt E m) k) ∧ wr.ownsRow (w.heap.size + 2) 3 1 v k (upto (rd (dgt D n) (dgt E m)) k) ∧ Below w.heap.size w wr ∧ w.heap.size + 1 < wr.heap.size ∧ wr.cell? ⟨w.heap.size, 0, none⟩ = some (.bool s) ∧ wr.cell? ⟨w.heap.size, 1, none⟩ = some (.slice a n c) ∧ wr.cell? ⟨w.heap.size + 1, 0, none⟩ = some (.bool t) ∧ wr.cell? ⟨w.heap.size + 1, 1, none⟩ = some (.slice b m d₁))
    (fun _ _ ix _ => n - (intOf ix).toNat)
  case atStart => exact ⟨0, by omega, rfl, rfl, World.ownsRow_nil _ _ _ _, by (repeat (first | exact Below.refl _ _ | assumption | refine Below.drew ?_ | refine below_drewN ?_ _ | refine Below.setCell ?_ (by first | omega | (simp; done) | (simp; omega)) _ | refine Below.alloc ?_ (by first | omega | (simp; done) | (simp; omega)) _)), by simp, by simp, by simp, by simp, by simp⟩
  case round =>
    obtain ⟨k, hk, rfl, rfl, hown, hBl, hsz, r0, r1, r2, r3⟩ := hrel
    have q1 := hA k
    have q2 := hB k
    have q3 := brr_bd (dgt D n) (dgt E m) k
    have HS := Lib.hid (show rd (dgt D n) (dgt E m) k = (dgt D n k - dgt E m k - brr (dgt D n) (dgt E m) k) % 10 from rfl)
    have HC := Lib.hid (show brr (dgt D n) (dgt E m) (k + 1) = if dgt D n k - dgt E m k - brr (dgt D n) (dgt E m) k < 0 then 1 else 0 from rfl)
    have HU := Lib.hid (upto_succ (rd (dgt D n) (dgt E m)) k)
    have RA := Lib.hid ra
    have RB := Lib.hid rb
    have HB := Lib.hid hBl
    clear ra rb hA hB hBl
    by_cases hlt : k < n
    · go_upto_region 6 with fail
      have wp1 : IntKind.i64.wrap (dgt D n k - dgt E m k) = dgt D n k - dgt E m k := IntWalk.i64_in _ (by omega)
      have wp2 : IntKind.i64.wrap (dgt D n k - dgt E m k - brr (dgt D n) (dgt E m) k) = dgt D n k - dgt E m k - brr (dgt D n) (dgt E m) k := IntWalk.i64_in _ (by omega)
      have ST := Lib.hid (show Stays (fun W => Below wr.heap.size wr W) from fun W W' h hb => h.trans (hb.mono h.size))
      have CA := Lib.hid (show ∀ x : Of (fun W => Below wr.heap.size wr W), Calls Try.prog 71 #[.agg #[.bool s, .slice a n c], .int .i64 k] x.world fun e w'' => e = .returned (.int .i64 (dgt D n k)) ∧ ∃ d' : Of (fun W => Below wr.heap.size wr W), w'' = d'.world from fun x => class_call ST.out x (digit_any s a n c D k _ ((RA.out.keep HB.out).keep x.holds) (by omega) (by omega)))
      have CB := Lib.hid (show ∀ x : Of (fun W => Below wr.heap.size wr W), Calls Try.prog 71 #[.agg #[.bool t, .slice b m d₁], .int .i64 k] x.world fun e w'' => e = .returned (.int .i64 (dgt E m k)) ∧ ∃ d' : Of (fun W => Below wr.heap.size wr W), w'' = d'.world from fun x => class_call ST.out x (digit_any t b m d₁ E k _ ((RB.out.keep HB.out).keep x.holds) (by omega) (by omega)))
      have ne : Nonempty (Of (fun W => Below wr.heap.size wr W)) := ⟨⟨wr, Below.refl _ _⟩⟩
      have c0 : ∀ d : Of (fun W => Below wr.heap.size wr W), d.world.cell? ⟨w.heap.size, 0, none⟩ = some (.bool s) := fun d => keepc d.holds r0
      have c1 : ∀ d : Of (fun W => Below wr.heap.size wr W), d.world.cell? ⟨w.heap.size, 1, none⟩ = some (.slice a n c) := fun d => keepc d.holds r1
      have c2 : ∀ d : Of (fun W => Below wr.heap.size wr W), d.world.cell? ⟨w.heap.size + 1, 0, none⟩ = some (.bool t) := fun d => keepc d.holds r2
      have c3 : ∀ d : Of (fun W => Below wr.heap.size wr W), d.world.cell? ⟨w.heap.size + 1, 1, none⟩ = some (.slice b m d₁) := fun d => keepc d.holds r3
      refine wp_region_class (S := fun W => Below wr.heap.size wr W) (by kernel_rfl) (by kernel_rfl) (Below.refl _ _).drew ?_
      repeat (go_big_quiet_step (first | (go_at_call 71; with_reducible exact CA.out _) | (go_at_call 71; with_reducible exact CB.out _)))
      refine wpQuiet_nil ?_
      rintro _ ⟨d, rfl⟩
      have HD := Lib.hid d.holds
      have z0 := c0 d
      have z1 := c1 d
      have z2 := c2 d
      have z3 := c3 d
      clear c0 c1 c2 c3
      have hown1 := own_keep hown HD.out
      have hBd : Below w.heap.size w d.world := HB.out.trans (HD.out.mono (by omega))
      have hszd : wr.heap.size ≤ d.world.heap.size := HD.out.size
      generalize d.world = wd at *
      clear CA CB ST ne wp1 wp2 r0 r1 r2 r3 RA RB HB HD hown
      generalize hX : dgt D n k - dgt E m k - brr (dgt D n) (dgt E m) k = X at *
      have hX0 : -10 ≤ X ∧ X ≤ 9 := by omega
      clear hX q1 q2 q3
      by_cases hx : X < 0
      · have HC1 : brr (dgt D n) (dgt E m) (k + 1) = 1 := by rw [HC.out, if_pos hx]
        go_wp2_with (first
          | (at_builtin; refine wpList_append_own _ rfl _ _ 68 rfl (w.heap.size + 2) 3 i0 (.int .i64 0) 1 8 Try.underlying68 hi hz0 hz1 hz2 rfl (by decide) _ _ _ rfl (hown1.alloc _) ⟨wd.heap.size, 0, none⟩ 1 1 [.int .i64 (X + 10)] rfl rfl ?c1 ?c2 ?c3 ?c4 ?c5 ?_))
        case c1 =>
          intro j u hj
          match j, hj with
          | 0, hj => simp at hj; subst hj; simp [Addr.add]
        case c2 => intro u hu; simp at hu; subst hu; rfl
        case c3 => unfold maxLen; omega
        case c4 => omega
        case c5 => simp; omega
        intro v' w1 hown' hgrow _
        have hob : ∀ g, u5.ownBlock = some g → w.heap.size + 2 ≤ g := fun g hg => (hown1.lt g hg).1
        have hB1 : Below w.heap.size w w1 := ((hBd.alloc (by omega) _).grown hgrow (by simp; omega) (fun g hg => by have := hob g hg; omega))
        have hBr : Below (w.heap.size + 2) wd w1 := (((Below.refl (w.heap.size + 2) wd).alloc (by omega) _).grown hgrow (by simp; omega) (fun g hg => hob g hg))
        have s0 : w1.cell? ⟨w.heap.size, 0, none⟩ = some (.bool s) := (hBr.cell (p := ⟨w.heap.size, 0, none⟩) (show w.heap.size < w.heap.size + 2 by omega)).trans z0
        have s1 : w1.cell? ⟨w.heap.size, 1, none⟩ = some (.slice a n c) := (hBr.cell (p := ⟨w.heap.size, 1, none⟩) (show w.heap.size < w.heap.size + 2 by omega)).trans z1
        have s2 : w1.cell? ⟨w.heap.size + 1, 0, none⟩ = some (.bool t) := (hBr.cell (p := ⟨w.heap.size + 1, 0, none⟩) (show w.heap.size + 1 < w.heap.size + 2 by omega)).trans z2
        have s3 : w1.cell? ⟨w.heap.size + 1, 1, none⟩ = some (.slice b m d₁) := (hBr.cell (p := ⟨w.heap.size + 1, 1, none⟩) (show w.heap.size + 1 < w.heap.size + 2 by omega)).trans z3
        have hz1' : w.heap.size + 1 < w1.heap.size := cell_lt s2
        rw [show X + 10 = X % 10 from by omega, ← HS.out, ← HU.out] at hown'
        have X5 := Lib.hid (And.intro hown' (And.intro hB1 (And.intro hz1' (And.intro s0 (And.intro s1 (And.intro s2 s3))))))
        clear hown' hgrow hown1 hBd hBr hB1 hob s0 s1 s2 s3 z0 z1 z2 z3
        go_wp2
        go_roundw
        case rel => exact ⟨k + 1, by omega, by go_num, by rw [HC1], X5.out⟩
        case measure => simp [intOf]; omega
      · have HC1 : brr (dgt D n) (dgt E m) (k + 1) = 0 := by rw [HC.out, if_neg hx]
        go_wp2_with (first
          | (at_builtin; refine wpList_append_own _ rfl _ _ 68 rfl (w.heap.size + 2) 3 i0 (.int .i64 0) 1 8 Try.underlying68 hi hz0 hz1 hz2 rfl (by decide) _ _ _ rfl (hown1.alloc _) ⟨wd.heap.size, 0, none⟩ 1 1 [.int .i64 X] rfl rfl ?c1 ?c2 ?c3 ?c4 ?c5 ?_))
        case c2 => rfl
        case c3 => unfold maxLen; omega
        case c4 => omega
        case c5 => omega
        intro v' w1 hown' hgrow _
        have hob : ∀ g, u5.ownBlock = some g → w.heap.size + 2 ≤ g := fun g hg => (hown1.lt g hg).1
        have hB1 : Below w.heap.size w w1 := ((hBd.alloc (by omega) _).grown hgrow (by simp; omega) (fun g hg => by have := hob g hg; omega))
        have hBr : Below (w.heap.size + 2) wd w1 := (((Below.refl (w.heap.size + 2) wd).alloc (by omega) _).grown hgrow (by simp; omega) (fun g hg => hob g hg))
        have s0 : w1.cell? ⟨w.heap.size, 0, none⟩ = some (.bool s) := (hBr.cell (p := ⟨w.heap.size, 0, none⟩) (show w.heap.size < w.heap.size + 2 by omega)).trans z0
        have s1 : w1.cell? ⟨w.heap.size, 1, none⟩ = some (.slice a n c) := (hBr.cell (p := ⟨w.heap.size, 1, none⟩) (show w.heap.size < w.heap.size + 2 by omega)).trans z1
        have s2 : w1.cell? ⟨w.heap.size + 1, 0, none⟩ = some (.bool t) := (hBr.cell (p := ⟨w.heap.size + 1, 0, none⟩) (show w.heap.size + 1 < w.heap.size + 2 by omega)).trans z2
        have s3 : w1.cell? ⟨w.heap.size + 1, 1, none⟩ = some (.slice b m d₁) := (hBr.cell (p := ⟨w.heap.size + 1, 1, none⟩) (show w.heap.size + 1 < w.heap.size + 2 by omega)).trans z3
        have hz1' : w.heap.size + 1 < w1.heap.size := cell_lt s2
        rw [show X = X % 10 from by omega, ← HS.out, ← HU.out] at hown'
        have X5 := Lib.hid (And.intro hown' (And.intro hB1 (And.intro hz1' (And.intro s0 (And.intro s1 (And.intro s2 s3))))))
        clear hown' hgrow hown1 hBd hBr hB1 hob s0 s1 s2 s3 z0 z1 z2 z3
        go_wp2
        go_roundw
        case rel => exact ⟨k + 1, by omega, by go_num, by rw [HC1], X5.out⟩
        case measure => simp [intOf]; omega
    · have hkk : k = n := by omega
      subst hkk
      obtain ⟨x, y, rfl, hrow, hc, hblk⟩ := row_of_own hown
      have HR := Lib.hid (And.intro hrow (And.intro hc hblk))
      clear hown hrow hc hblk
      go_wp2
      refine bodyPost_ret (v := .slice x k y) (by simp [results, Try.results63, go_sem]) rfl ⟨HB.out, _, _, _, _, rfl, HR.out.1, HR.out.2.1, rd_Dg _ _ _, ?_, fun b off e => by have := HR.out.2.2 b off e; omega⟩
      exact rd_all da db hle
end Go.Proofs.Ytfghjfgdjlkooaa
/-
  The reference's order of digits: size.
-/
namespace Go.Proofs.Ytfghjfgdjlkooaa
open Go.RowKit
open Go.BigFrame

def sg (x : Int) : Int := if x < 0 then -1 else if x = 0 then 0 else 1
theorem vs_less {A B : Nat → Int} (ha : Ds A) (hb : Ds B) {j K : Nat} (hj : j < K) (he : ∀ i, j < i → A i = B i) (h : A j < B j) : vs A 0 K < vs B 0 K := by
  obtain ⟨l, rfl⟩ : ∃ l, K = (j + 1) + l := ⟨K - (j + 1), by omega⟩
  rw [vs_split A, vs_split B, vs_same (D := A) (E := B) l (0 + (j + 1)) (fun i h1 _ => he i (by omega)), vs_snoc, vs_snoc, Nat.zero_add, Nat.zero_add]
  have b1 := vs_bd (n := j) (D := A) (fun i _ => ha i) j 0 (by omega)
  have b2 := vs_bd (n := j) (D := B) (fun i _ => hb i) j 0 (by omega)
  have p := p10_pos j
  have : p10 j * (A j + 1) ≤ p10 j * B j := Int.mul_le_mul_of_nonneg_left (by omega) (by omega)
  rw [Int.mul_add] at this
  omega
theorem dgt_less {D E : Nat → Int} {n m j : Nat} (da : Dg D n) (db : Dg E m) (hj : j < max n m) (he : ∀ i, j < i → dgt D n i = dgt E m i) :
    (dgt D n j < dgt E m j → vs D 0 n < vs E 0 m) ∧ (dgt E m j < dgt D n j → vs E 0 m < vs D 0 n) := by
  have e1 := vs_dgt D n (max n m) (by omega)
  have e2 := vs_dgt E m (max n m) (by omega)
  constructor
  · intro h
    have := vs_less (dgt_Ds da) (dgt_Ds db) hj he h
    omega
  · intro h
    have := vs_less (dgt_Ds db) (dgt_Ds da) hj (fun i hi => (he i hi).symm) h
    omega
theorem dgt_same {D E : Nat → Int} {n m : Nat} (he : ∀ i, dgt D n i = dgt E m i) : vs D 0 n = vs E 0 m := by
  rw [← vs_dgt D n (max n m) (by omega), ← vs_dgt E m (max n m) (by omega)]
  exact vs_same _ _ (fun i _ _ => he i)

set_option maxRecDepth 100000 in
set_option maxHeartbeats 1000000 in
theorem size_any (s t : Bool) (a b : Option Addr) (n m c d₁ : Nat) (D E : Nat → Int) (w : World) (ra : RowF w a n c D) (rb : RowF w b m d₁ E) (hn : n ≤ 1000000) (hm : m ≤ 1000000) (da : Dg D n) (db : Dg E m) :
    Calls Try.prog 62 #[.agg #[.bool s, .slice a n c], .agg #[.bool t, .slice b m d₁]] w fun e w' => e = .returned (.int .i64 (sg (vs D 0 n - vs E 0 m))) ∧ Below w.heap.size w w' := by
  go_enter Try.func62, Try.ntmps62
  go_wp2_with fail
  go_loopw [5] (fun ix wr => ∃ k : Nat, k ≤ max n m ∧ ix = .int .i64 ((k : Int) - 1) ∧ (∀ j, k ≤ j → dgt D n j = dgt E m j) ∧ Below w.heap.size w wr ∧ w.heap.size + 1 < wr.heap.size ∧ wr.cell? ⟨w.heap.size, 0, none⟩ = some (.bool s) ∧ wr.cell? ⟨w.heap.size, 1, none⟩ = some (.slice a n c) ∧ wr.cell? ⟨w.heap.size + 1, 0, none⟩ = some (.bool t) ∧ wr.cell? ⟨w.heap.size + 1, 1, none⟩ = some (.slice b m d₁))
    (fun ix _ => (intOf ix + 1).toNat)
  case atStart => exact ⟨max n m, by omega, congrArg (Value.int .i64) (by omega), fun j hj => by unfold dgt; rw [if_neg (by omega), if_neg (by omega)], by (repeat (first | exact Below.refl _ _ | assumption | refine Below.drew ?_ | refine below_drewN ?_ _ | refine Below.setCell ?_ (by first | omega | (simp; done) | (simp; omega)) _ | refine Below.alloc ?_ (by first | omega | (simp; done) | (simp; omega)) _)), by simp, by simp, by simp, by simp, by simp⟩
  case round =>
    obtain ⟨k, hk, rfl, heq, hBl, hsz, r0, r1, r2, r3⟩ := hrel
    have HE := Lib.hid heq
    have RA := Lib.hid (ra.keep hBl)
    have RB := Lib.hid (rb.keep hBl)
    have HB := Lib.hid hBl
    have DA := Lib.hid da
    have DB := Lib.hid db
    clear ra rb hBl heq da db
    rcases Nat.eq_zero_or_pos k with hk0 | hk0
    · subst hk0
      go_wp2
      exact bodyPost_ret (v := .int .i64 0) (by simp [results, Try.results62, go_sem]) rfl ⟨by rw [dgt_same (fun i => HE.out i (Nat.zero_le _)), Int.sub_self]; rfl, HB.out⟩
    · obtain ⟨j, rfl⟩ : ∃ j, k = j + 1 := ⟨k - 1, by omega⟩
      rw [show ((j + 1 : Nat) : Int) - 1 = (j : Int) from by omega]
      have q := dgt_less DA.out DB.out (j := j) (by omega) (fun i hi => HE.out i hi)
      have HQ := Lib.hid q
      clear q
      have ST := Lib.hid (show Stays (fun W => Below wr.heap.size wr W) from fun W W' h hb => h.trans (hb.mono h.size))
      have CA := Lib.hid (show ∀ x : Of (fun W => Below wr.heap.size wr W), Calls Try.prog 71 #[.agg #[.bool s, .slice a n c], .int .i64 j] x.world fun e w'' => e = .returned (.int .i64 (dgt D n j)) ∧ ∃ d' : Of (fun W => Below wr.heap.size wr W), w'' = d'.world from fun x => class_call ST.out x (digit_any s a n c D j _ (RA.out.keep x.holds) (by omega) (by omega)))
      have CB := Lib.hid (show ∀ x : Of (fun W => Below wr.heap.size wr W), Calls Try.prog 71 #[.agg #[.bool t, .slice b m d₁], .int .i64 j] x.world fun e w'' => e = .returned (.int .i64 (dgt E m j)) ∧ ∃ d' : Of (fun W => Below wr.heap.size wr W), w'' = d'.world from fun x => class_call ST.out x (digit_any t b m d₁ E j _ (RB.out.keep x.holds) (by omega) (by omega)))
      have ne : Nonempty (Of (fun W => Below wr.heap.size wr W)) := ⟨⟨wr, Below.refl _ _⟩⟩
      have c0 : ∀ d : Of (fun W => Below wr.heap.size wr W), d.world.cell? ⟨w.heap.size, 0, none⟩ = some (.bool s) := fun d => keepc d.holds r0
      have c1 : ∀ d : Of (fun W => Below wr.heap.size wr W), d.world.cell? ⟨w.heap.size, 1, none⟩ = some (.slice a n c) := fun d => keepc d.holds r1
      have c2 : ∀ d : Of (fun W => Below wr.heap.size wr W), d.world.cell? ⟨w.heap.size + 1, 0, none⟩ = some (.bool t) := fun d => keepc d.holds r2
      have c3 : ∀ d : Of (fun W => Below wr.heap.size wr W), d.world.cell? ⟨w.heap.size + 1, 1, none⟩ = some (.slice b m d₁) := fun d => keepc d.holds r3
      clear r0 r1 r2 r3
      go_upto_region 4 with fail
      refine wp_region_class (S := fun W => Below wr.heap.size wr W) (by kernel_rfl) (by kernel_rfl) (Below.refl _ _).drew ?_
      repeat (go_big_quiet_step (first | (go_at_call 71; with_reducible exact CA.out _) | (go_at_call 71; with_reducible exact CB.out _)))
      refine wpQuiet_nil ?_
      rintro _ ⟨x1, rfl⟩
      by_cases h1 : dgt D n j < dgt E m j
      · have z := HQ.out.1 h1
        go_wp2
        exact bodyPost_ret (v := .int .i64 (-1)) (by simp [results, Try.results62, go_sem]) rfl ⟨by unfold sg; rw [if_pos (by omega)], HB.out.trans (x1.holds.mono HB.out.size)⟩
      · go_upto_region 6 with fail
        refine wp_region_class (S := fun W => Below wr.heap.size wr W) (by kernel_rfl) (by kernel_rfl) x1.holds.drew ?_
        repeat (go_big_quiet_step (first | (go_at_call 71; with_reducible exact CA.out _) | (go_at_call 71; with_reducible exact CB.out _)))
        refine wpQuiet_nil ?_
        rintro _ ⟨x2, rfl⟩
        by_cases h2 : dgt E m j < dgt D n j
        · have z := HQ.out.2 h2
          go_wp2
          exact bodyPost_ret (v := .int .i64 1) (by simp [results, Try.results62, go_sem]) rfl ⟨by unfold sg; rw [if_neg (by omega), if_neg (by omega)], HB.out.trans (x2.holds.mono HB.out.size)⟩
        · have X2 := Lib.hid x2.holds
          have z0 := c0 x2
          have z1 := c1 x2
          have z2 := c2 x2
          have z3 := c3 x2
          clear c0 c1 c2 c3 CA CB ST ne HQ
          go_wp2
          go_roundw
          case rel => exact ⟨j, by omega, rfl, fun i hi => by (rcases Nat.lt_or_ge j i with h | h; exact HE.out i h; rw [show i = j from by omega]; omega), HB.out.trans (X2.out.mono HB.out.size), by have := X2.out.size; omega, z0, z1, z2, z3⟩
          case measure => simp [intOf]
end Go.Proofs.Ytfghjfgdjlkooaa
/-
  The reference's numbers: Sum, Other, Less.
-/
namespace Go.Proofs.Ytfghjfgdjlkooaa
open Go.RowKit
open Go.BigFrame

theorem NumV.sg {s : Bool} {N : Int} {D : Nat → Int} {n : Nat} (h : vs D 0 n = N.natAbs) (hs : s = decide (N < 0)) : N = if s then -(vs D 0 n) else vs D 0 n := by
  subst hs
  by_cases h0 : N < 0
  · rw [if_pos (decide_eq_true h0)]; omega
  · rw [if_neg (by simp [h0])]; omega
/-- How many digits. -/
theorem num_len {D : Nat → Int} {n k : Nat} (hd : Dg D n) (ht : n = 0 ∨ D (n - 1) ≠ 0) (h : vs D 0 n < p10 k) : n ≤ k := by
  rcases ht with h0 | h0
  · omega
  · rcases Nat.lt_or_ge k n with q | q
    · obtain ⟨j, rfl⟩ : ∃ j, n = j + 1 := ⟨n - 1, by omega⟩
      have e := vs_snoc D j 0
      rw [Nat.zero_add] at e
      have b := vs_bd hd j 0 (by omega)
      have d := hd j (by omega)
      have h0' : D j ≠ 0 := h0
      have p := p10_pos j
      have : p10 j * 1 ≤ p10 j * D j := Int.mul_le_mul_of_nonneg_left (by omega) (by omega)
      obtain ⟨l, rfl⟩ : ∃ l, j = k + l := ⟨j - k, by omega⟩
      have g : ∀ l, p10 k ≤ p10 (k + l) := by
        intro l
        induction l with
        | zero => exact Int.le_refl _
        | succ l ih => have p := p10_pos (k + l); show p10 k ≤ 10 * p10 (k + l); omega
      have := g l
      omega
    · exact q

/-- The world in which Sum's own blocks are laid. -/
def sumW (w : World) (x y : Array Value) : World := ((w.alloc (.cells x 70)).alloc (.cells y 70)).alloc (.cells #[.bool false, .slice none 0 0] 70)
structure SumW (w : World) (s : Bool) (a : Option Addr) (n c : Nat) (t : Bool) (b : Option Addr) (m d : Nat) (V : World) : Prop where
  bel : Below w.heap.size w V
  big : w.heap.size + 1 + 1 < V.heap.size
  x0 : V.cell? ⟨w.heap.size, 0, none⟩ = some (.bool s)
  x1 : V.cell? ⟨w.heap.size, 1, none⟩ = some (.slice a n c)
  y0 : V.cell? ⟨w.heap.size + 1, 0, none⟩ = some (.bool t)
  y1 : V.cell? ⟨w.heap.size + 1, 1, none⟩ = some (.slice b m d)
  z0 : V.cell? ⟨w.heap.size + 1 + 1, 0, none⟩ = some (.bool false)
  z1 : V.cell? ⟨w.heap.size + 1 + 1, 1, none⟩ = some (.slice none 0 0)
  fr : ∀ o, V.frozen? ⟨w.heap.size + 1 + 1, o, none⟩ = false
theorem sumW_is (w : World) (s : Bool) (a : Option Addr) (n c : Nat) (t : Bool) (b : Option Addr) (m d : Nat) : SumW w s a n c t b m d (sumW w #[.bool s, .slice a n c] #[.bool t, .slice b m d]) where
  bel := by unfold sumW; (repeat (first | exact Below.refl _ _ | assumption | refine Below.drew ?_ | refine below_drewN ?_ _ | refine Below.setCell ?_ (by first | omega | (simp; done) | (simp; omega)) _ | refine Below.alloc ?_ (by first | omega | (simp; done) | (simp; omega)) _))
  big := by unfold sumW; simp
  x0 := keepa (keepa (alloc_cell rfl rfl))
  x1 := keepa (keepa (alloc_cell rfl rfl))
  y0 := keepa (alloc_cell (by simp) rfl)
  y1 := keepa (alloc_cell (by simp) rfl)
  z0 := alloc_cell (by simp) rfl
  z1 := alloc_cell (by simp) rfl
  fr := fun _ => alloc_frozen (by simp)
theorem SumW.keep {w : World} {s : Bool} {a : Option Addr} {n c : Nat} {t : Bool} {b : Option Addr} {m d : Nat} {V V' : World} (h : SumW w s a n c t b m d V) (hb : Below V.heap.size V V') : SumW w s a n c t b m d V' :=
  have hs : w.heap.size ≤ V.heap.size := h.bel.size
  ⟨h.bel.trans (hb.mono hs), Nat.lt_of_lt_of_le h.big hb.size, keepc hb h.x0, keepc hb h.x1, keepc hb h.y0, keepc hb h.y1, keepc hb h.z0, keepc hb h.z1, fun o => (hb.frozen (p := ⟨w.heap.size + 1 + 1, o, none⟩) h.big).trans (h.fr o)⟩

def Has (W : World) (p : Addr) : Prop := ∃ v, W.cell? p = some v
theorem has_keep {W W' : World} {p : Addr} (hb : Below W.heap.size W W') (h : Has W p) : Has W' p := ⟨_, keepc hb h.choose_spec⟩
theorem keep_sum {w W W' : World} {p0 p1 q0 q1 : Addr} {g : Nat} {v0 v1 u0 u1 : Value} (hb : Below W.heap.size W W') (h : Below w.heap.size w W) (h0 : W.cell? p0 = some v0) (h1 : W.cell? p1 = some v1) (h2 : W.cell? q0 = some u0) (h3 : W.cell? q1 = some u1) (h4 : Has W ⟨g, 0, none⟩) (h5 : Has W ⟨g, 1, none⟩) (h6 : W.frozen? ⟨g, 0, none⟩ = false) (h7 : W.frozen? ⟨g, 1, none⟩ = false) :
    Below w.heap.size w W' ∧ W'.cell? p0 = some v0 ∧ W'.cell? p1 = some v1 ∧ W'.cell? q0 = some u0 ∧ W'.cell? q1 = some u1 ∧ Has W' ⟨g, 0, none⟩ ∧ Has W' ⟨g, 1, none⟩ ∧ W'.frozen? ⟨g, 0, none⟩ = false ∧ W'.frozen? ⟨g, 1, none⟩ = false :=
  have hl : g < W.heap.size := cell_lt h4.choose_spec
  ⟨h.trans (hb.mono h.size), keepc hb h0, keepc hb h1, keepc hb h2, keepc hb h3, ⟨_, keepc hb h4.choose_spec⟩, ⟨_, keepc hb h5.choose_spec⟩, (hb.frozen (p := ⟨g, 0, none⟩) hl).trans h6, (hb.frozen (p := ⟨g, 1, none⟩) hl).trans h7⟩
theorem cell_other {W : World} {p q : Addr} {v u : Value} (h : W.cell? q = some u) (hne : q.block ≠ p.block) : (W.setCell p v).cell? q = some u :=
  (World.cell?_of_block (w := W) (w' := W.setCell p v) (a := q) (Below.heap_setCell W p v q.block hne)).trans h
theorem BelowW {w W V : World} (h : Below w.heap.size w W) (hb : Below W.heap.size W V) : Below w.heap.size w V := h.trans (hb.mono h.size)
theorem set_sum {w W : World} {v0 v1 u0 u1 x y : Value} (h : Below w.heap.size w W) (h0 : W.cell? ⟨w.heap.size, 0, none⟩ = some v0) (h1 : W.cell? ⟨w.heap.size, 1, none⟩ = some v1) (h2 : W.cell? ⟨w.heap.size + 1, 0, none⟩ = some u0) (h3 : W.cell? ⟨w.heap.size + 1, 1, none⟩ = some u1) (h4 : Has W ⟨w.heap.size + 1 + 1, 0, none⟩) (h5 : Has W ⟨w.heap.size + 1 + 1, 1, none⟩) (h6 : W.frozen? ⟨w.heap.size + 1 + 1, 0, none⟩ = false) (h7 : W.frozen? ⟨w.heap.size + 1 + 1, 1, none⟩ = false) (W' : World) (hW : W' = (W.setCell ⟨w.heap.size + 1 + 1, 0, none⟩ x).setCell ⟨w.heap.size + 1 + 1, 1, none⟩ y) :
    Below w.heap.size w W' ∧ W'.cell? ⟨w.heap.size, 0, none⟩ = some v0 ∧ W'.cell? ⟨w.heap.size, 1, none⟩ = some v1 ∧ W'.cell? ⟨w.heap.size + 1, 0, none⟩ = some u0 ∧ W'.cell? ⟨w.heap.size + 1, 1, none⟩ = some u1 ∧ Has W' ⟨w.heap.size + 1 + 1, 0, none⟩ ∧ Has W' ⟨w.heap.size + 1 + 1, 1, none⟩ ∧ W'.frozen? ⟨w.heap.size + 1 + 1, 0, none⟩ = false ∧ W'.frozen? ⟨w.heap.size + 1 + 1, 1, none⟩ = false := by
  subst hW
  obtain ⟨a4, h4⟩ := h4
  obtain ⟨a5, h5⟩ := h5
  refine ⟨(h.setCell (p := ⟨w.heap.size + 1 + 1, 0, none⟩) (show w.heap.size ≤ w.heap.size + 1 + 1 by omega) x).setCell (p := ⟨w.heap.size + 1 + 1, 1, none⟩) (show w.heap.size ≤ w.heap.size + 1 + 1 by omega) y, cell_other (cell_other h0 ?_) ?_, cell_other (cell_other h1 ?_) ?_, cell_other (cell_other h2 ?_) ?_, cell_other (cell_other h3 ?_) ?_, ⟨x, ?_⟩, ⟨y, ?_⟩, ?_, ?_⟩
  all_goals (first | (simp; done) | (simp [h6, h7]; done) | (simp [go_sem, h4, h5]; done) | (simp; omega) | exact Nat.ne_of_lt (by simp; omega) | trace_state)

theorem sum_end {w w7 w8 : World} {a7 : Option Addr} {n7 c7 : Nat} {D7 : Nat → Int} {X : Int} (s : Bool) (x y : Value) (hB : Below w.heap.size w w8) (hrow : RowF w7 a7 n7 c7 D7) (hb : Below w7.heap.size w7 w8) (hc : c7 ≤ 9223372036854775807) (hd : Dg D7 n7) (hv : vs D7 0 n7 = X) (hbl : ∀ b off, a7 = some ⟨b, off, none⟩ → w.heap.size + 1 + 1 < b) :
    Below w.heap.size w ((w8.setCell ⟨w.heap.size + 1 + 1, 0, none⟩ x).setCell ⟨w.heap.size + 1 + 1, 1, none⟩ y) ∧ NumV ((w8.setCell ⟨w.heap.size + 1 + 1, 0, none⟩ x).setCell ⟨w.heap.size + 1 + 1, 1, none⟩ y) (.agg #[.bool (s && decide (0 < tl D7 n7)), .slice a7 (tl D7 n7) c7]) (if s then -X else X) := by
  subst hv
  exact ⟨(hB.setCell (p := ⟨w.heap.size + 1 + 1, 0, none⟩) (show w.heap.size ≤ w.heap.size + 1 + 1 by omega) x).setCell (p := ⟨w.heap.size + 1 + 1, 1, none⟩) (show w.heap.size ≤ w.heap.size + 1 + 1 by omega) y,
    num_of_trim (((hrow.keep hb).set (p := ⟨w.heap.size + 1 + 1, 0, none⟩) (fun b off e => Nat.ne_of_gt (hbl b off e)) x).set (p := ⟨w.heap.size + 1 + 1, 1, none⟩) (fun b off e => Nat.ne_of_gt (hbl b off e)) y) hc hd⟩
set_option maxRecDepth 100000 in
set_option maxHeartbeats 1000000 in
theorem sum_same (s : Bool) (a b : Option Addr) (n m c d₁ : Nat) (D E : Nat → Int) (w : World) (ra : RowF w a n c D) (rb : RowF w b m d₁ E) (hn : n ≤ 1000000) (hm : m ≤ 1000000) (da : Dg D n) (db : Dg E m) :
    Calls Try.prog 54 #[.agg #[.bool s, .slice a n c], .agg #[.bool s, .slice b m d₁]] w (RetNum (if s then -(vs D 0 n + vs E 0 m) else vs D 0 n + vs E 0 m) w) := by
  have HV := sumW_is w s a n c s b m d₁
  cases s
  · go_enter Try.func54, Try.ntmps54
    go_wp2_with fail
    rw [← sumW] at *
    generalize sumW w _ _ = V at *
    have RA := Lib.hid (ra.keep HV.bel)
    have RB := Lib.hid (rb.keep HV.bel)
    have HH := Lib.hid HV
    obtain ⟨BV, hbig, x0, x1, y0, y1, z0, z1, fr⟩ := HV
    go_region_held3 (fun W => Below w.heap.size w W ∧ W.cell? ⟨w.heap.size, 0, none⟩ = some (.bool false) ∧ W.cell? ⟨w.heap.size, 1, none⟩ = some (.slice a n c) ∧ W.cell? ⟨w.heap.size + 1, 0, none⟩ = some (.bool false) ∧ W.cell? ⟨w.heap.size + 1, 1, none⟩ = some (.slice b m d₁) ∧ Has W ⟨w.heap.size + 1 + 1, 0, none⟩ ∧ Has W ⟨w.heap.size + 1 + 1, 1, none⟩ ∧ W.frozen? ⟨w.heap.size + 1 + 1, 0, none⟩ = false ∧ W.frozen? ⟨w.heap.size + 1 + 1, 1, none⟩ = false)
      (first | exact ⟨BV.drew, x0, x1, y0, y1, ⟨_, z0⟩, ⟨_, z1⟩, fr 0, fr 1⟩ | (go_split_ands; exact keep_sum hb (by assumption) (by assumption) (by assumption) (by assumption) (by assumption) (by assumption) (by assumption) (by assumption) (by assumption)) | (go_split_ands; exact set_sum h8B h80 h81 h82 h83 ⟨_, k0⟩ ⟨_, k1⟩ h86 h87 _ rfl))
      (first
        | (go_at_call 61; refine (plus_any _ _ a b n m c d₁ D E _ ?_ ?_ hn hm da db).mono ?_; (go_split_ands; exact ra.keep (by assumption)); (go_split_ands; exact rb.keep (by assumption)); rintro e w7 ⟨hb, a7, n7, c7, D7, rfl, hrow, hc7, hd7, hv7, hbl⟩)
        | (go_at_call 53; refine (trim_any _ _ _ _ _ _ hrow hc7).mono ?_; rintro e w8 ⟨rfl, hb⟩; obtain ⟨h8B, h80, h81, h82, h83, h84, h85, h86, h87⟩ := (by go_split_ands; exact keep_sum (w := w) (p0 := ⟨w.heap.size, 0, none⟩) (p1 := ⟨w.heap.size, 1, none⟩) (q0 := ⟨w.heap.size + 1, 0, none⟩) (q1 := ⟨w.heap.size + 1, 1, none⟩) (g := w.heap.size + 1 + 1) hb (by assumption) (by assumption) (by assumption) (by assumption) (by assumption) (by assumption) (by assumption) (by assumption) (by assumption) : _ ∧ _ ∧ _ ∧ _ ∧ _ ∧ _ ∧ _ ∧ _ ∧ _); obtain ⟨t0, k0⟩ := h84; obtain ⟨t1, k1⟩ := h85))
    have Z := sum_end false (.bool false) (.slice a7 (tl D7 n7) c7) h8B hrow hb hc7 hd7 hv7 (fun b off e => Nat.lt_of_lt_of_le hbig (hbl b off e))
    go_wp2
    exact bodyPost_ret (v := .agg #[.bool false, .slice a7 (tl D7 n7) c7]) (by simp [results, Try.results54, go_sem, k0, k1]) rfl ⟨Z.1, _, rfl, by simpa using Z.2⟩
  · go_enter Try.func54, Try.ntmps54
    go_wp2_with fail
    rw [← sumW] at *
    generalize sumW w _ _ = V at *
    have RA := Lib.hid (ra.keep HV.bel)
    have RB := Lib.hid (rb.keep HV.bel)
    have HH := Lib.hid HV
    obtain ⟨BV, hbig, x0, x1, y0, y1, z0, z1, fr⟩ := HV
    go_region_held3 (fun W => Below w.heap.size w W ∧ W.cell? ⟨w.heap.size, 0, none⟩ = some (.bool true) ∧ W.cell? ⟨w.heap.size, 1, none⟩ = some (.slice a n c) ∧ W.cell? ⟨w.heap.size + 1, 0, none⟩ = some (.bool true) ∧ W.cell? ⟨w.heap.size + 1, 1, none⟩ = some (.slice b m d₁) ∧ Has W ⟨w.heap.size + 1 + 1, 0, none⟩ ∧ Has W ⟨w.heap.size + 1 + 1, 1, none⟩ ∧ W.frozen? ⟨w.heap.size + 1 + 1, 0, none⟩ = false ∧ W.frozen? ⟨w.heap.size + 1 + 1, 1, none⟩ = false)
      (first | exact ⟨BV.drew, x0, x1, y0, y1, ⟨_, z0⟩, ⟨_, z1⟩, fr 0, fr 1⟩ | (go_split_ands; exact keep_sum hb (by assumption) (by assumption) (by assumption) (by assumption) (by assumption) (by assumption) (by assumption) (by assumption) (by assumption)) | (go_split_ands; exact set_sum h8B h80 h81 h82 h83 ⟨_, k0⟩ ⟨_, k1⟩ h86 h87 _ rfl))
      (first
        | (go_at_call 61; refine (plus_any _ _ a b n m c d₁ D E _ ?_ ?_ hn hm da db).mono ?_; (go_split_ands; exact ra.keep (by assumption)); (go_split_ands; exact rb.keep (by assumption)); rintro e w7 ⟨hb, a7, n7, c7, D7, rfl, hrow, hc7, hd7, hv7, hbl⟩)
        | (go_at_call 53; refine (trim_any _ _ _ _ _ _ hrow hc7).mono ?_; rintro e w8 ⟨rfl, hb⟩; obtain ⟨h8B, h80, h81, h82, h83, h84, h85, h86, h87⟩ := (by go_split_ands; exact keep_sum (w := w) (p0 := ⟨w.heap.size, 0, none⟩) (p1 := ⟨w.heap.size, 1, none⟩) (q0 := ⟨w.heap.size + 1, 0, none⟩) (q1 := ⟨w.heap.size + 1, 1, none⟩) (g := w.heap.size + 1 + 1) hb (by assumption) (by assumption) (by assumption) (by assumption) (by assumption) (by assumption) (by assumption) (by assumption) (by assumption) : _ ∧ _ ∧ _ ∧ _ ∧ _ ∧ _ ∧ _ ∧ _ ∧ _); obtain ⟨t0, k0⟩ := h84; obtain ⟨t1, k1⟩ := h85))
    have Z := sum_end true (.bool (decide (0 < tl D7 n7))) (.slice a7 (tl D7 n7) c7) h8B hrow hb hc7 hd7 hv7 (fun b off e => Nat.lt_of_lt_of_le hbig (hbl b off e))
    go_wp2
    exact bodyPost_ret (v := .agg #[.bool (decide (0 < tl D7 n7)), .slice a7 (tl D7 n7) c7]) (by simp [results, Try.results54, go_sem, k0, k1]) rfl ⟨Z.1, _, rfl, by simpa using Z.2⟩
end Go.Proofs.Ytfghjfgdjlkooaa
/-
  The reference's numbers: Sum of two sides.
-/
namespace Go.Proofs.Ytfghjfgdjlkooaa
open Go.RowKit
open Go.BigFrame

set_option maxRecDepth 100000 in
set_option maxHeartbeats 1000000 in
theorem sum_plus_minus (a b : Option Addr) (n m c d₁ : Nat) (D E : Nat → Int) (w : World) (ra : RowF w a n c D) (rb : RowF w b m d₁ E) (hn : n ≤ 1000000) (hm : m ≤ 1000000) (da : Dg D n) (db : Dg E m) :
    Calls Try.prog 54 #[.agg #[.bool false, .slice a n c], .agg #[.bool true, .slice b m d₁]] w (RetNum (vs D 0 n - vs E 0 m) w) := by
  have HV := sumW_is w false a n c true b m d₁
  go_enter Try.func54, Try.ntmps54
  go_upto_region 3 with fail
  rw [← sumW] at *
  generalize sumW w _ _ = V at *
  have RA := Lib.hid (ra.keep HV.bel)
  have RB := Lib.hid (rb.keep HV.bel)
  have HH := Lib.hid HV
  obtain ⟨BV, hbig, x0, x1, y0, y1, z0, z1, fr⟩ := HV
  by_cases hge : vs E 0 m ≤ vs D 0 n
  · have hsg : 0 ≤ sg (vs D 0 n - vs E 0 m) := by unfold sg; split <;> (try split) <;> omega
    generalize hσ : sg (vs D 0 n - vs E 0 m) = σ at *
    go_wp2_with (go_at_call 62; refine (size_any _ _ a b n m c d₁ D E _ RA.out RB.out hn hm da db).mono ?_; rintro e w1 ⟨rfl, hb1⟩; rw [hσ]; have HV1 := HH.out.keep hb1; obtain ⟨BV1, hbig1, x01, x11, y01, y11, z01, z11, fr1⟩ := HV1)
    clear x0 x1 y0 y1 z0 z1 fr hb1
    go_region_held3 (fun W => Below w.heap.size w W ∧ W.cell? ⟨w.heap.size, 0, none⟩ = some (.bool false) ∧ W.cell? ⟨w.heap.size, 1, none⟩ = some (.slice a n c) ∧ W.cell? ⟨w.heap.size + 1, 0, none⟩ = some (.bool true) ∧ W.cell? ⟨w.heap.size + 1, 1, none⟩ = some (.slice b m d₁) ∧ Has W ⟨w.heap.size + 1 + 1, 0, none⟩ ∧ Has W ⟨w.heap.size + 1 + 1, 1, none⟩ ∧ W.frozen? ⟨w.heap.size + 1 + 1, 0, none⟩ = false ∧ W.frozen? ⟨w.heap.size + 1 + 1, 1, none⟩ = false)
      (first | exact ⟨BV1.drew, x01, x11, y01, y11, ⟨_, z01⟩, ⟨_, z11⟩, fr1 0, fr1 1⟩ | (go_split_ands; exact keep_sum hb (by assumption) (by assumption) (by assumption) (by assumption) (by assumption) (by assumption) (by assumption) (by assumption) (by assumption)) | (go_split_ands; exact set_sum h8B h80 h81 h82 h83 ⟨_, k0⟩ ⟨_, k1⟩ h86 h87 _ rfl))
      (first
        | (go_at_call 63; refine (minus_any _ _ a b n m c d₁ D E _ ?_ ?_ hn hm da db hge).mono ?_; (go_split_ands; exact ra.keep (by assumption)); (go_split_ands; exact rb.keep (by assumption)); rintro e w7 ⟨hb, a7, n7, c7, D7, rfl, hrow, hc7, hd7, hv7, hbl⟩)
        | (go_at_call 53; refine (trim_any _ _ _ _ _ _ hrow hc7).mono ?_; rintro e w8 ⟨rfl, hb⟩; obtain ⟨h8B, h80, h81, h82, h83, h84, h85, h86, h87⟩ := (by go_split_ands; exact keep_sum (w := w) (p0 := ⟨w.heap.size, 0, none⟩) (p1 := ⟨w.heap.size, 1, none⟩) (q0 := ⟨w.heap.size + 1, 0, none⟩) (q1 := ⟨w.heap.size + 1, 1, none⟩) (g := w.heap.size + 1 + 1) hb (by assumption) (by assumption) (by assumption) (by assumption) (by assumption) (by assumption) (by assumption) (by assumption) (by assumption) : _ ∧ _ ∧ _ ∧ _ ∧ _ ∧ _ ∧ _ ∧ _ ∧ _); obtain ⟨t0, k0⟩ := h84; obtain ⟨t1, k1⟩ := h85))
    have Z := sum_end false (.bool false) (.slice a7 (tl D7 n7) c7) h8B hrow hb hc7 hd7 hv7 (fun b off e => Nat.lt_of_lt_of_le hbig1 (hbl b off e))
    go_wp2
    rw [show (vs D 0 n - vs E 0 m) = (if false then -(vs D 0 n - vs E 0 m) else vs D 0 n - vs E 0 m) from by simp <;> omega]
    exact bodyPost_ret (v := .agg #[.bool false, .slice a7 (tl D7 n7) c7]) (by simp [results, Try.results54, go_sem, k0, k1]) rfl ⟨Z.1, _, rfl, by simpa using Z.2⟩
  · have hsg : sg (vs D 0 n - vs E 0 m) < 0 := by unfold sg; split <;> (try split) <;> omega
    generalize hσ : sg (vs D 0 n - vs E 0 m) = σ at *
    go_wp2_with (go_at_call 62; refine (size_any _ _ a b n m c d₁ D E _ RA.out RB.out hn hm da db).mono ?_; rintro e w1 ⟨rfl, hb1⟩; rw [hσ]; have HV1 := HH.out.keep hb1; obtain ⟨BV1, hbig1, x01, x11, y01, y11, z01, z11, fr1⟩ := HV1)
    clear x0 x1 y0 y1 z0 z1 fr hb1
    go_region_held3 (fun W => Below w.heap.size w W ∧ W.cell? ⟨w.heap.size, 0, none⟩ = some (.bool false) ∧ W.cell? ⟨w.heap.size, 1, none⟩ = some (.slice a n c) ∧ W.cell? ⟨w.heap.size + 1, 0, none⟩ = some (.bool true) ∧ W.cell? ⟨w.heap.size + 1, 1, none⟩ = some (.slice b m d₁) ∧ Has W ⟨w.heap.size + 1 + 1, 0, none⟩ ∧ Has W ⟨w.heap.size + 1 + 1, 1, none⟩ ∧ W.frozen? ⟨w.heap.size + 1 + 1, 0, none⟩ = false ∧ W.frozen? ⟨w.heap.size + 1 + 1, 1, none⟩ = false)
      (first | exact ⟨BV1.drew, x01, x11, y01, y11, ⟨_, z01⟩, ⟨_, z11⟩, fr1 0, fr1 1⟩ | (go_split_ands; exact keep_sum hb (by assumption) (by assumption) (by assumption) (by assumption) (by assumption) (by assumption) (by assumption) (by assumption) (by assumption)) | (go_split_ands; exact set_sum h8B h80 h81 h82 h83 ⟨_, k0⟩ ⟨_, k1⟩ h86 h87 _ rfl))
      (first
        | (go_at_call 63; refine (minus_any _ _ b a m n d₁ c E D _ ?_ ?_ hm hn db da (by omega)).mono ?_; (go_split_ands; exact rb.keep (by assumption)); (go_split_ands; exact ra.keep (by assumption)); rintro e w7 ⟨hb, a7, n7, c7, D7, rfl, hrow, hc7, hd7, hv7, hbl⟩)
        | (go_at_call 53; refine (trim_any _ _ _ _ _ _ hrow hc7).mono ?_; rintro e w8 ⟨rfl, hb⟩; obtain ⟨h8B, h80, h81, h82, h83, h84, h85, h86, h87⟩ := (by go_split_ands; exact keep_sum (w := w) (p0 := ⟨w.heap.size, 0, none⟩) (p1 := ⟨w.heap.size, 1, none⟩) (q0 := ⟨w.heap.size + 1, 0, none⟩) (q1 := ⟨w.heap.size + 1, 1, none⟩) (g := w.heap.size + 1 + 1) hb (by assumption) (by assumption) (by assumption) (by assumption) (by assumption) (by assumption) (by assumption) (by assumption) (by assumption) : _ ∧ _ ∧ _ ∧ _ ∧ _ ∧ _ ∧ _ ∧ _ ∧ _); obtain ⟨t0, k0⟩ := h84; obtain ⟨t1, k1⟩ := h85))
    have Z := sum_end true (.bool (decide (0 < tl D7 n7))) (.slice a7 (tl D7 n7) c7) h8B hrow hb hc7 hd7 hv7 (fun b off e => Nat.lt_of_lt_of_le hbig1 (hbl b off e))
    go_wp2
    rw [show (vs D 0 n - vs E 0 m) = (if true then -(vs E 0 m - vs D 0 n) else vs E 0 m - vs D 0 n) from by simp <;> omega]
    exact bodyPost_ret (v := .agg #[.bool (decide (0 < tl D7 n7)), .slice a7 (tl D7 n7) c7]) (by simp [results, Try.results54, go_sem, k0, k1]) rfl ⟨Z.1, _, rfl, by simpa using Z.2⟩
set_option maxRecDepth 100000 in
set_option maxHeartbeats 1000000 in
theorem sum_minus_plus (a b : Option Addr) (n m c d₁ : Nat) (D E : Nat → Int) (w : World) (ra : RowF w a n c D) (rb : RowF w b m d₁ E) (hn : n ≤ 1000000) (hm : m ≤ 1000000) (da : Dg D n) (db : Dg E m) :
    Calls Try.prog 54 #[.agg #[.bool true, .slice a n c], .agg #[.bool false, .slice b m d₁]] w (RetNum (vs E 0 m - vs D 0 n) w) := by
  have HV := sumW_is w true a n c false b m d₁
  go_enter Try.func54, Try.ntmps54
  go_upto_region 3 with fail
  rw [← sumW] at *
  generalize sumW w _ _ = V at *
  have RA := Lib.hid (ra.keep HV.bel)
  have RB := Lib.hid (rb.keep HV.bel)
  have HH := Lib.hid HV
  obtain ⟨BV, hbig, x0, x1, y0, y1, z0, z1, fr⟩ := HV
  by_cases hge : vs E 0 m ≤ vs D 0 n
  · have hsg : 0 ≤ sg (vs D 0 n - vs E 0 m) := by unfold sg; split <;> (try split) <;> omega
    generalize hσ : sg (vs D 0 n - vs E 0 m) = σ at *
    go_wp2_with (go_at_call 62; refine (size_any _ _ a b n m c d₁ D E _ RA.out RB.out hn hm da db).mono ?_; rintro e w1 ⟨rfl, hb1⟩; rw [hσ]; have HV1 := HH.out.keep hb1; obtain ⟨BV1, hbig1, x01, x11, y01, y11, z01, z11, fr1⟩ := HV1)
    clear x0 x1 y0 y1 z0 z1 fr hb1
    go_region_held3 (fun W => Below w.heap.size w W ∧ W.cell? ⟨w.heap.size, 0, none⟩ = some (.bool true) ∧ W.cell? ⟨w.heap.size, 1, none⟩ = some (.slice a n c) ∧ W.cell? ⟨w.heap.size + 1, 0, none⟩ = some (.bool false) ∧ W.cell? ⟨w.heap.size + 1, 1, none⟩ = some (.slice b m d₁) ∧ Has W ⟨w.heap.size + 1 + 1, 0, none⟩ ∧ Has W ⟨w.heap.size + 1 + 1, 1, none⟩ ∧ W.frozen? ⟨w.heap.size + 1 + 1, 0, none⟩ = false ∧ W.frozen? ⟨w.heap.size + 1 + 1, 1, none⟩ = false)
      (first | exact ⟨BV1.drew, x01, x11, y01, y11, ⟨_, z01⟩, ⟨_, z11⟩, fr1 0, fr1 1⟩ | (go_split_ands; exact keep_sum hb (by assumption) (by assumption) (by assumption) (by assumption) (by assumption) (by assumption) (by assumption) (by assumption) (by assumption)) | (go_split_ands; exact set_sum h8B h80 h81 h82 h83 ⟨_, k0⟩ ⟨_, k1⟩ h86 h87 _ rfl))
      (first
        | (go_at_call 63; refine (minus_any _ _ a b n m c d₁ D E _ ?_ ?_ hn hm da db hge).mono ?_; (go_split_ands; exact ra.keep (by assumption)); (go_split_ands; exact rb.keep (by assumption)); rintro e w7 ⟨hb, a7, n7, c7, D7, rfl, hrow, hc7, hd7, hv7, hbl⟩)
        | (go_at_call 53; refine (trim_any _ _ _ _ _ _ hrow hc7).mono ?_; rintro e w8 ⟨rfl, hb⟩; obtain ⟨h8B, h80, h81, h82, h83, h84, h85, h86, h87⟩ := (by go_split_ands; exact keep_sum (w := w) (p0 := ⟨w.heap.size, 0, none⟩) (p1 := ⟨w.heap.size, 1, none⟩) (q0 := ⟨w.heap.size + 1, 0, none⟩) (q1 := ⟨w.heap.size + 1, 1, none⟩) (g := w.heap.size + 1 + 1) hb (by assumption) (by assumption) (by assumption) (by assumption) (by assumption) (by assumption) (by assumption) (by assumption) (by assumption) : _ ∧ _ ∧ _ ∧ _ ∧ _ ∧ _ ∧ _ ∧ _ ∧ _); obtain ⟨t0, k0⟩ := h84; obtain ⟨t1, k1⟩ := h85))
    have Z := sum_end true (.bool (decide (0 < tl D7 n7))) (.slice a7 (tl D7 n7) c7) h8B hrow hb hc7 hd7 hv7 (fun b off e => Nat.lt_of_lt_of_le hbig1 (hbl b off e))
    go_wp2
    rw [show (vs E 0 m - vs D 0 n) = (if true then -(vs D 0 n - vs E 0 m) else vs D 0 n - vs E 0 m) from by simp <;> omega]
    exact bodyPost_ret (v := .agg #[.bool (decide (0 < tl D7 n7)), .slice a7 (tl D7 n7) c7]) (by simp [results, Try.results54, go_sem, k0, k1]) rfl ⟨Z.1, _, rfl, by simpa using Z.2⟩
  · have hsg : sg (vs D 0 n - vs E 0 m) < 0 := by unfold sg; split <;> (try split) <;> omega
    generalize hσ : sg (vs D 0 n - vs E 0 m) = σ at *
    go_wp2_with (go_at_call 62; refine (size_any _ _ a b n m c d₁ D E _ RA.out RB.out hn hm da db).mono ?_; rintro e w1 ⟨rfl, hb1⟩; rw [hσ]; have HV1 := HH.out.keep hb1; obtain ⟨BV1, hbig1, x01, x11, y01, y11, z01, z11, fr1⟩ := HV1)
    clear x0 x1 y0 y1 z0 z1 fr hb1
    go_region_held3 (fun W => Below w.heap.size w W ∧ W.cell? ⟨w.heap.size, 0, none⟩ = some (.bool true) ∧ W.cell? ⟨w.heap.size, 1, none⟩ = some (.slice a n c) ∧ W.cell? ⟨w.heap.size + 1, 0, none⟩ = some (.bool false) ∧ W.cell? ⟨w.heap.size + 1, 1, none⟩ = some (.slice b m d₁) ∧ Has W ⟨w.heap.size + 1 + 1, 0, none⟩ ∧ Has W ⟨w.heap.size + 1 + 1, 1, none⟩ ∧ W.frozen? ⟨w.heap.size + 1 + 1, 0, none⟩ = false ∧ W.frozen? ⟨w.heap.size + 1 + 1, 1, none⟩ = false)
      (first | exact ⟨BV1.drew, x01, x11, y01, y11, ⟨_, z01⟩, ⟨_, z11⟩, fr1 0, fr1 1⟩ | (go_split_ands; exact keep_sum hb (by assumption) (by assumption) (by assumption) (by assumption) (by assumption) (by assumption) (by assumption) (by assumption) (by assumption)) | (go_split_ands; exact set_sum h8B h80 h81 h82 h83 ⟨_, k0⟩ ⟨_, k1⟩ h86 h87 _ rfl))
      (first
        | (go_at_call 63; refine (minus_any _ _ b a m n d₁ c E D _ ?_ ?_ hm hn db da (by omega)).mono ?_; (go_split_ands; exact rb.keep (by assumption)); (go_split_ands; exact ra.keep (by assumption)); rintro e w7 ⟨hb, a7, n7, c7, D7, rfl, hrow, hc7, hd7, hv7, hbl⟩)
        | (go_at_call 53; refine (trim_any _ _ _ _ _ _ hrow hc7).mono ?_; rintro e w8 ⟨rfl, hb⟩; obtain ⟨h8B, h80, h81, h82, h83, h84, h85, h86, h87⟩ := (by go_split_ands; exact keep_sum (w := w) (p0 := ⟨w.heap.size, 0, none⟩) (p1 := ⟨w.heap.size, 1, none⟩) (q0 := ⟨w.heap.size + 1, 0, none⟩) (q1 := ⟨w.heap.size + 1, 1, none⟩) (g := w.heap.size + 1 + 1) hb (by assumption) (by assumption) (by assumption) (by assumption) (by assumption) (by assumption) (by assumption) (by assumption) (by assumption) : _ ∧ _ ∧ _ ∧ _ ∧ _ ∧ _ ∧ _ ∧ _ ∧ _); obtain ⟨t0, k0⟩ := h84; obtain ⟨t1, k1⟩ := h85))
    have Z := sum_end false (.bool false) (.slice a7 (tl D7 n7) c7) h8B hrow hb hc7 hd7 hv7 (fun b off e => Nat.lt_of_lt_of_le hbig1 (hbl b off e))
    go_wp2
    rw [show (vs E 0 m - vs D 0 n) = (if false then -(vs E 0 m - vs D 0 n) else vs E 0 m - vs D 0 n) from by simp <;> omega]
    exact bodyPost_ret (v := .agg #[.bool false, .slice a7 (tl D7 n7) c7]) (by simp [results, Try.results54, go_sem, k0, k1]) rfl ⟨Z.1, _, rfl, by simpa using Z.2⟩
end Go.Proofs.Ytfghjfgdjlkooaa
/-
  The reference's numbers: Sum of any two.
-/
namespace Go.Proofs.Ytfghjfgdjlkooaa
open Go.RowKit
open Go.BigFrame

/-- Numbers of few digits. -/
def Small (N : Int) : Prop := (N.natAbs : Int) < p10 100
theorem num_small {D : Nat → Int} {n : Nat} {N : Int} (hd : Dg D n) (ht : n = 0 ∨ D (n - 1) ≠ 0) (hv : vs D 0 n = N.natAbs) (h : Small N) : n ≤ 100 := num_len hd ht (by rw [hv]; exact h)
theorem side {N : Int} {V : Int} {s : Bool} (hs : s = decide (N < 0)) (hv : V = N.natAbs) : N = if s then -V else V := by
  subst hs hv
  by_cases h0 : N < 0
  · rw [if_pos (decide_eq_true h0)]; omega
  · rw [if_neg (by simp [h0])]; omega
theorem sum_any {w : World} {va vb : Value} {A B : Int} (ha : NumV w va A) (hb : NumV w vb B) (sa : Small A) (sb : Small B) : Calls Try.prog 54 #[va, vb] w (RetNum (A + B) w) := by
  obtain ⟨a, n, c, D, rfl, ra, hc, da, ta, ea⟩ := ha
  obtain ⟨b, m, d, E, rfl, rb, hd, db, tb, eb⟩ := hb
  have hn := num_small da ta ea sa
  have hm := num_small db tb eb sb
  have fa := side (N := A) rfl ea
  have fb := side (N := B) rfl eb
  generalize decide (A < 0) = s at *
  generalize decide (B < 0) = t at *
  cases s <;> cases t
  · have := sum_same false a b n m c d D E w ra rb (by omega) (by omega) da db
    simp only [Bool.false_eq_true, if_false] at this fa fb
    rw [fa, fb]; exact this
  · have := sum_plus_minus a b n m c d D E w ra rb (by omega) (by omega) da db
    simp only [Bool.false_eq_true, if_false, if_true] at fa fb
    rw [fa, fb, ← Int.sub_eq_add_neg]; exact this
  · have := sum_minus_plus a b n m c d D E w ra rb (by omega) (by omega) da db
    simp only [Bool.false_eq_true, if_false, if_true] at fa fb
    rw [fa, fb, show -(vs D 0 n) + vs E 0 m = vs E 0 m - vs D 0 n from by omega]; exact this
  · have := sum_same true a b n m c d D E w ra rb (by omega) (by omega) da db
    simp only [if_true] at this fa fb
    rw [fa, fb, show -(vs D 0 n) + -(vs E 0 m) = -(vs D 0 n + vs E 0 m) from by omega]; exact this
end Go.Proofs.Ytfghjfgdjlkooaa
/-
  The reference's product: the digits.
-/
namespace Go.Proofs.Ytfghjfgdjlkooaa
open Go.RowKit

def upd (F : Nat → Int) (p : Nat) (x : Int) : Nat → Int := fun j => if j = p then x else F j
theorem upd_at (F : Nat → Int) (p : Nat) (x : Int) : upd F p x p = x := by unfold upd; rw [if_pos rfl]
theorem upd_ne (F : Nat → Int) {p j : Nat} (x : Int) (h : j ≠ p) : upd F p x j = F j := by unfold upd; rw [if_neg h]
theorem p10_add (i k : Nat) : p10 (i + k) = p10 i * p10 k := by
  induction i with
  | zero => rw [Nat.zero_add]; show p10 k = 1 * p10 k; omega
  | succ i ih => rw [show i + 1 + k = (i + k) + 1 from by omega]; show 10 * p10 (i + k) = 10 * p10 i * p10 k; rw [ih, Int.mul_assoc]
theorem vs_upd (F : Nat → Int) {p M : Nat} (x : Int) (h : p < M) : vs (upd F p x) 0 M = vs F 0 M + p10 p * (x - F p) := by
  obtain ⟨l, rfl⟩ : ∃ l, M = (p + 1) + l := ⟨M - (p + 1), by omega⟩
  rw [vs_split, vs_split F, vs_snoc, vs_snoc, Nat.zero_add, Nat.zero_add, upd_at]
  rw [vs_same (D := upd F p x) (E := F) l (p + 1) (fun j h1 _ => upd_ne F x (by omega)), vs_same (D := upd F p x) (E := F) p 0 (fun j _ h2 => upd_ne F x (by omega)), Int.mul_sub]
  omega
/-- A round of the inner loop. -/
def stepF (F : Nat → Int) (p : Nat) (y : Int) : Nat → Int :=
  upd (upd (upd F p (F p + y)) (p + 1) (F (p + 1) + (F p + y) / 10)) p ((F p + y) % 10)
theorem stepF_vs (F : Nat → Int) {p M : Nat} (y : Int) (h : p + 1 < M) : vs (stepF F p y) 0 M = vs F 0 M + p10 p * y := by
  unfold stepF
  rw [vs_upd _ _ (by omega), vs_upd _ _ h, vs_upd _ _ (by omega)]
  rw [upd_ne _ _ (show p ≠ p + 1 by omega), upd_at, upd_ne _ _ (show p + 1 ≠ p by omega)]
  show vs F 0 M + p10 p * (F p + y - F p) + 10 * p10 p * (F (p + 1) + (F p + y) / 10 - F (p + 1)) + p10 p * ((F p + y) % 10 - (F p + y)) = _
  have e : (F p + y - F p) + 10 * (F (p + 1) + (F p + y) / 10 - F (p + 1)) + ((F p + y) % 10 - (F p + y)) = y := by omega
  rw [Int.mul_comm 10 (p10 p), Int.mul_assoc, Int.add_assoc, Int.add_assoc, ← Int.mul_add, ← Int.mul_add, ← Int.add_assoc, e]
structure Mid (A B F : Nat → Int) (i k m M : Nat) : Prop where
  val : vs F 0 M = vs A 0 i * vs B 0 m + p10 i * (A i * vs B 0 k)
  nn : ∀ j, 0 ≤ F j
  le : ∀ j, j ≠ i + k → F j ≤ 9
  top : F (i + k) ≤ 18
  zz : ∀ j, i + m ≤ j → F j = 0 ∨ (k = m ∧ j = i + m ∧ F j ≤ 9)
structure RowM (A B F : Nat → Int) (i m M : Nat) : Prop where
  val : vs F 0 M = vs A 0 i * vs B 0 m
  nn : ∀ j, 0 ≤ F j
  le : ∀ j, F j ≤ 9
  zz : ∀ j, i + m ≤ j → F j = 0
theorem RowM.mid {A B F : Nat → Int} {i m M : Nat} (h : RowM A B F i m M) : Mid A B F i 0 m M :=
  ⟨by rw [h.val]; show _ = _ + p10 i * (A i * 0); rw [Int.mul_zero, Int.mul_zero, Int.add_zero], h.nn, fun j _ => h.le j, by have := h.le (i + 0); omega, fun j hj => .inl (h.zz j hj)⟩
theorem Mid.row {A B F : Nat → Int} {i m M : Nat} (h : Mid A B F i m m M) : RowM A B F (i + 1) m M := by
  refine ⟨?_, h.nn, fun j => ?_, fun j hj => ?_⟩
  · rw [h.val, vs_snoc, Nat.zero_add, Int.add_mul, Int.mul_assoc]
  · by_cases e : j = i + m
    · rcases h.zz j (by omega) with q | q
      · omega
      · exact q.2.2
    · exact h.le j e
  · rcases h.zz j (by omega) with q | q
    · exact q
    · omega
theorem Mid.step {A B F : Nat → Int} {i k m M : Nat} (h : Mid A B F i k m M) (hk : k < m) (hM : i + m < M) (ha : 0 ≤ A i ∧ A i ≤ 9) (hb : 0 ≤ B k ∧ B k ≤ 9) : Mid A B (stepF F (i + k) (A i * B k)) i (k + 1) m M := by
  have y0 : 0 ≤ A i * B k := Int.mul_nonneg ha.1 hb.1
  have y1 : A i * B k ≤ 81 := by
    have : A i * B k ≤ 9 * B k := Int.mul_le_mul_of_nonneg_right ha.2 hb.1
    omega
  have n0 := h.nn (i + k)
  have n1 := h.nn (i + k + 1)
  have t := h.top
  have l1 := h.le (i + k + 1) (by omega)
  have s0 : stepF F (i + k) (A i * B k) (i + k) = (F (i + k) + A i * B k) % 10 := by unfold stepF; rw [upd_at]
  have s1 : stepF F (i + k) (A i * B k) (i + k + 1) = F (i + k + 1) + (F (i + k) + A i * B k) / 10 := by unfold stepF; rw [upd_ne _ _ (by omega), upd_at]
  have s2 : ∀ j, j ≠ i + k → j ≠ i + k + 1 → stepF F (i + k) (A i * B k) j = F j := fun j h1 h2 => by unfold stepF; rw [upd_ne _ _ h1, upd_ne _ _ h2, upd_ne _ _ h1]
  refine ⟨?_, fun j => ?_, fun j hj => ?_, ?_, fun j hj => ?_⟩
  · rw [stepF_vs F _ (by omega), h.val, vs_snoc, Nat.zero_add, p10_add, Int.mul_add, Int.mul_add, Int.add_assoc]
    congr 2
    rw [Int.mul_assoc, Int.mul_left_comm (p10 k)]
  · by_cases e : j = i + k
    · rw [e, s0]; omega
    · by_cases e1 : j = i + k + 1
      · rw [e1, s1]; omega
      · rw [s2 j e e1]; exact h.nn j
  · by_cases e : j = i + k
    · rw [e, s0]; omega
    · rw [s2 j e (by omega)]; exact h.le j e
  · rw [show i + (k + 1) = i + k + 1 from by omega, s1]; omega
  · by_cases e1 : j = i + k + 1
    · right
      refine ⟨by omega, by omega, ?_⟩
      rw [e1, s1]
      have : F (i + k + 1) = 0 := by
        rcases h.zz (i + k + 1) (by omega) with q | q
        · exact q
        · omega
      omega
    · left
      rw [s2 j (by omega) e1]
      rcases h.zz j hj with q | q
      · exact q
      · omega
end Go.Proofs.Ytfghjfgdjlkooaa
/-
  The reference's product: Times.
-/
namespace Go.Proofs.Ytfghjfgdjlkooaa
open Go.RowKit
open Go.BigFrame

theorem zeros_cell {W : World} {N j : Nat} (h : j < N) : (W.alloc (.cells (madeCells #[.int .i64 0] N) 3)).cell? ⟨W.heap.size, j, none⟩ = some (.int .i64 0) := by
  refine alloc_cell rfl ?_
  unfold madeCells
  simp [h, Nat.mod_one]
theorem made {P : Program} {i0 : TypeInfo} {W : World} (hu : P.underlying 68 = some (.slice 3)) (hi : P.info? 3 = some i0) (hz0 : i0.zero = some (.int .i64 0)) (hz1 : i0.size = 1) (hz2 : i0.bytes = 8) (n m : Nat) (hn : n ≤ 1000000) (hm : m ≤ 1000000) :
    (Instr.makeSlice 68 (.int .i64 ((n : Int) + m + 1)) (.int .i64 ((n : Int) + m + 1))).run P W = .ok (.slice (some ⟨W.heap.size, 0, none⟩) (n + m + 1) (n + m + 1)) (W.alloc (.cells (madeCells #[.int .i64 0] (n + m + 1)) 3)) := by
  have h := run_make (P := P) W 68 3 i0 (.int .i64 0) hu hi hz0 .i64 .i64 ((n : Int) + m + 1) ((n : Int) + m + 1) (by omega) (Int.le_refl _) (by rw [hz2]; omega) (by omega)
  rw [hz1, show ((n : Int) + m + 1).toNat = n + m + 1 from by omega, Nat.mul_one] at h
  exact h

/-- The world within Times: its own blocks, and the row that it fills. -/
structure TimesW (w : World) (s : Bool) (a : Option Addr) (n c : Nat) (t : Bool) (b : Option Addr) (m d : Nat) (g : Nat) (F : Nat → Int) (V : World) : Prop extends SumW w s a n c t b m d V where
  row : ∀ j, j < n + m + 1 → V.cell? ⟨g, j, none⟩ = some (.int .i64 (F j))
  frr : ∀ o, V.frozen? ⟨g, o, none⟩ = false
  more : w.heap.size + 1 + 1 < g
  most : g < V.heap.size

theorem TimesW.start {w : World} {s : Bool} {a : Option Addr} {n c : Nat} {t : Bool} {b : Option Addr} {m d : Nat} {V : World} (h : SumW w s a n c t b m d V) : TimesW w s a n c t b m d V.heap.size (fun _ => 0) (V.alloc (.cells (madeCells #[.int .i64 0] (n + m + 1)) 3)) :=
  { h.keep ((Below.refl _ _).alloc (Nat.le_refl _) _) with
    row := fun _ hj => zeros_cell hj
    frr := fun _ => alloc_frozen rfl
    more := h.big
    most := by simp }
theorem TimesW.drew {w : World} {s : Bool} {a : Option Addr} {n c : Nat} {t : Bool} {b : Option Addr} {m d g : Nat} {F : Nat → Int} {V : World} (h : TimesW w s a n c t b m d g F V) : TimesW w s a n c t b m d g F V.drew :=
  ⟨⟨h.bel.drew, h.big, h.x0, h.x1, h.y0, h.y1, h.z0, h.z1, h.fr⟩, h.row, h.frr, h.more, h.most⟩
theorem upd_self (F : Nat → Int) (p : Nat) : upd F p (F p) = F := by
  funext j; unfold upd; split
  · rename_i h; rw [h]
  · rfl
theorem frozen_set {W : World} {p q : Addr} {v : Value} : (W.setCell p v).frozen? q = W.frozen? q := World.frozen?_setCell _ _ _ _
theorem TimesW.set {w : World} {s : Bool} {a : Option Addr} {n c : Nat} {t : Bool} {b : Option Addr} {m d g : Nat} {F : Nat → Int} {V : World} (h : TimesW w s a n c t b m d g F V) {p : Nat} (hp : p < n + m + 1) (x : Int) : TimesW w s a n c t b m d g (upd F p x) (V.setCell ⟨g, p, none⟩ (.int .i64 x)) := by
  have hm := h.more
  have hs := ((Below.refl 0 V).setCell (p := ⟨g, p, none⟩) (Nat.zero_le _) (.int .i64 x)).size
  have hg : w.heap.size ≤ g := by omega
  refine ⟨⟨h.bel.setCell (p := ⟨g, p, none⟩) hg _, Nat.lt_of_lt_of_le h.big hs, cell_other h.x0 (show w.heap.size ≠ g by omega), cell_other h.x1 (show w.heap.size ≠ g by omega), cell_other h.y0 (show w.heap.size + 1 ≠ g by omega), cell_other h.y1 (show w.heap.size + 1 ≠ g by omega), cell_other h.z0 (show w.heap.size + 1 + 1 ≠ g by omega), cell_other h.z1 (show w.heap.size + 1 + 1 ≠ g by omega), fun o => frozen_set.trans (h.fr o)⟩, fun j hj => ?_, fun o => frozen_set.trans (h.frr o), h.more, Nat.lt_of_lt_of_le h.most hs⟩
  have hc := h.row p hp
  have hd := h.row j hj
  by_cases e : j = p
  · subst e
    rw [upd_at]
    simp [go_sem, hc]
  · rw [upd_ne _ _ e]
    simp [go_sem, hd]

set_option maxRecDepth 100000 in
set_option maxHeartbeats 1000000 in
theorem times_any (s t : Bool) (a b : Option Addr) (n m c d₁ : Nat) (D E : Nat → Int) (w : World) (ra : RowF w a n c D) (rb : RowF w b m d₁ E) (hn : n ≤ 100) (hm : m ≤ 100) (da : Dg D n) (db : Dg E m) (X : Int) (hX : (if s != t then -(vs D 0 n * vs E 0 m) else vs D 0 n * vs E 0 m) = X) :
    Calls Try.prog 41 #[.agg #[.bool s, .slice a n c], .agg #[.bool t, .slice b m d₁]] w (RetNum X w) := by
  obtain ⟨i0, hi, hz0, hz1, hz2⟩ := info_parts infoI
  have HX := Lib.hid hX
  have HV := sumW_is w s a n c t b m d₁
  clear hX
  go_enter Try.func41, Try.ntmps41
  go_upto_region 1 with fail
  rw [← sumW] at *
  generalize sumW w _ _ = V at *
  have RA := Lib.hid (ra.keep HV.bel)
  have RB := Lib.hid (rb.keep HV.bel)
  have HH := Lib.hid HV
  obtain ⟨BV, hbig, x0, x1, y0, y1, z0, z1, fr⟩ := HV
  have hmk := made (P := Try.prog) (W := V) rfl hi hz0 hz1 hz2 n m (by omega) (by omega)
  have HT := TimesW.start HH.out
  go_wp2_with fail
  generalize (V.alloc (.cells (madeCells #[.int .i64 0] (n + m + 1)) 3)) = V1 at *
  have hg0 : V.heap.size = V.heap.size := rfl
  generalize V.heap.size = g at *
  clear hmk x0 x1 y0 y1 z0 z1 fr hbig
  go_loopw [6] (fun ix wr => ∃ (i : Nat) (F : Nat → Int), i ≤ n ∧ ix = .int .i64 i ∧ TimesW w s a n c t b m d₁ g F wr ∧ RowM (dgt D n) (dgt E m) F i m (n + m + 1))
    (fun ix _ => n - (intOf ix).toNat)
  case atStart => exact ⟨0, fun _ => 0, Nat.zero_le _, rfl, HT, ⟨by rw [vs_nought _ _ (fun _ _ => rfl)]; exact (Int.zero_mul _).symm, fun _ => Int.le_refl _, fun _ => by decide, fun _ _ => rfl⟩⟩
  case round =>
    obtain ⟨i, F, hin, rfl, hT, hM⟩ := hrel
    have HT := Lib.hid hT
    have HM := Lib.hid hM
    obtain ⟨⟨BW, hbig, x0, x1, y0, y1, z0, z1, fr⟩, hrow, hfr, hmore, hmost⟩ := hT
    clear hM
    by_cases hlt : i < n
    · have hri := RA.out
      have qa := dgt_Ds da i
      have HQ := Lib.hid qa
      clear x0 x1 y0 y1 z0 z1 fr hrow hfr
      obtain ⟨⟨BW, hbig, x0, x1, y0, y1, z0, z1, fr⟩, hrow, hfr, hmore, hmost⟩ := HT.out
      clear hrow hfr
      go_wp2_with fail
      clear x0 x1 y0 y1 z0 z1 fr qa hri
      go_loopw [7] (fun kx wq => ∃ (k : Nat) (G : Nat → Int), k ≤ m ∧ kx = .int .i64 k ∧ TimesW w s a n c t b m d₁ g G wq ∧ Mid (dgt D n) (dgt E m) G i k m (n + m + 1))
        (fun kx _ => m - (intOf kx).toNat)
      case atStart => exact ⟨0, F, Nat.zero_le _, rfl, HT.out, HM.out.mid⟩
      case round =>
        obtain ⟨k, G, hkm, rfl, hT2, hM2⟩ := hrel
        have HT2 := Lib.hid hT2
        have HM2 := Lib.hid hM2
        clear hT2 hM2 HT HM
        obtain ⟨⟨BW2, hbig2, x0, x1, y0, y1, z0, z1, fr⟩, hrow, hfr, hmore2, hmost2⟩ := HT2.out
        by_cases hlk : k < m
        · have r0 := hrow (i + k) (by omega)
          have r1 := hrow (i + k + 1) (by omega)
          have f0 := hfr (i + k)
          have f1 := hfr (i + k + 1)
          obtain ⟨ba, oa, rfl, hla, hca⟩ := ra.at hlt
          obtain ⟨bb, ob, rfl, hlb, hcb⟩ := rb.at hlk
          have ca := (BW2.cell (p := ⟨ba, oa + i, none⟩) hla).trans (hca i hlt)
          have cb := (BW2.cell (p := ⟨bb, ob + k, none⟩) hlb).trans (hcb k hlk)
          have ia : (i : Int) + k < (n : Int) + m + 1 := by omega
          have wp0 : IntKind.i64.wrap ((i : Int) + k) = ((i + k : Nat) : Int) := by rw [IntWalk.i64_in _ (by omega)]; omega
          clear hrow hfr hca hcb z0 z1 fr
          go_upto_region 8 with fail
          have gk := HM2.out.nn (i + k)
          have gt := HM2.out.top
          have qa := dgt_Ds da i
          have qb := dgt_Ds db k
          have ea : dgt (D) n i = D i := by unfold dgt; rw [if_pos hlt]
          have eb : dgt (E) m k = E k := by unfold dgt; rw [if_pos hlk]
          rw [ea] at qa
          rw [eb] at qb
          have y0' : 0 ≤ D i * E k := Int.mul_nonneg qa.1 qb.1
          have y1' : D i * E k ≤ 81 := by
            have : D i * E k ≤ 9 * E k := Int.mul_le_mul_of_nonneg_right qa.2 qb.1
            omega
          have wp1 : IntKind.i64.wrap (D i * E k) = D i * E k := IntWalk.i64_in _ (by omega)
          have wp2 : IntKind.i64.wrap (G (i + k) + D i * E k) = G (i + k) + D i * E k := IntWalk.i64_in _ (by omega)
          have tn : ((i + k : Nat) : Int).toNat = i + k := by omega
          have lt1 : ((i + k : Nat) : Int) < ((n + m + 1 : Nat) : Int) := by omega
          have lt2 : (i : Int) < (n : Int) := by omega
          have lt3 : (k : Int) < (m : Int) := by omega
          go_region
          have MS := HM2.out.step hlk (by omega) (dgt_Ds da i) (dgt_Ds db k)
          rw [ea, eb] at MS
          have S1 := Lib.hid MS
          have T1 := (HT2.out.set (p := i + k) (by omega) (G (i + k) + D i * E k)).drew
          have g1' := HM2.out.nn (i + k + 1)
          have g1u := HM2.out.le (i + k + 1) (by omega)
          have v0 := T1.row (i + k) (by omega)
          have v1 := T1.row (i + k + 1) (by omega)
          rw [upd_at] at v0
          rw [upd_ne _ _ (show i + k + 1 ≠ i + k by omega)] at v1
          have h0 := T1.frr (i + k)
          have h1 := T1.frr (i + k + 1)
          have HT1 := Lib.hid T1
          clear MS T1 x0 x1 y0 y1 ca cb qa qb ea eb r0 r1 f0 f1 HT2 HM2 wp1 wp2 BW2 hmost2 hbig2
          generalize hY : G (i + k) + D i * E k = Y at *
          have hY0 : 0 ≤ Y ∧ Y ≤ 99 := by omega
          clear y0' y1' gk gt lt2 lt3
          generalize (wr.setCell ⟨g, i + k, none⟩ (.int .i64 Y)).drew = W1 at *
          have wp3 : IntKind.i64.wrap ((i : Int) + k + 1) = (i : Int) + k + 1 := IntWalk.i64_in _ (by omega)
          have td : Y.tdiv 10 = Y / 10 := Int.tdiv_eq_ediv_of_nonneg hY0.1
          have wp4 : IntKind.i64.wrap (G (i + k + 1) + Y / 10) = G (i + k + 1) + Y / 10 := IntWalk.i64_in _ (by omega)
          have lt4 : ((i + k + 1 : Nat) : Int) < ((n + m + 1 : Nat) : Int) := by omega
          have tn4 : ((i : Int) + k + 1).toNat = i + k + 1 := by omega
          go_upto_region 9 with fail
          go_region
          have T2 := (HT1.out.set (p := i + k + 1) (by omega) (G (i + k + 1) + Y / 10)).drew
          have e0 := T2.row (i + k) (by omega)
          rw [upd_ne _ _ (show i + k ≠ i + k + 1 by omega), upd_at] at e0
          have e1 := T2.frr (i + k)
          have HT2 := Lib.hid T2
          clear T2 HT1 v0 v1 h0 h1 wp3 wp4 td lt4 tn4 g1' g1u
          generalize (W1.setCell ⟨g, i + k + 1, none⟩ (.int .i64 (G (i + k + 1) + Y / 10))).drew = W2 at *
          have tm : Y.tmod 10 = Y % 10 := Int.tmod_eq_emod_of_nonneg hY0.1
          go_wp2_with fail
          have T3 := HT2.out.set (p := i + k) (by omega) (Y % 10)
          rw [← hY] at T3
          go_roundw
          case rel => exact ⟨k + 1, stepF G (i + k) (D i * E k), by omega, by go_num, by rw [← hY]; exact T3, S1.out⟩
          case measure => simp [intOf]; omega
        · have hkm' : k = m := by omega
          subst hkm'
          clear x0 x1 y0 y1 z0 z1 fr hrow hfr
          obtain ⟨⟨BW3, hbig3, x0, x1, y0, y1, z0, z1, fr⟩, hrow, hfr, hmore3, hmost3⟩ := HT2.out
          clear hrow hfr
          go_wp2_with fail
          go_roundw
          case rel => exact ⟨i + 1, G, by omega, by go_num, HT2.out, HM2.out.row⟩
          case measure => simp [intOf]; omega
    · have hin' : i = n := by omega
      have MN := HM.out
      rw [hin'] at MN
      have HMN := Lib.hid MN
      clear MN HM hin hrow hfr x0 x1 y0 y1 z0 z1 fr
      obtain ⟨⟨BW1, hbig1, x0, x1, y0, y1, z0, z1, fr⟩, hrow, hfr, hmore1, hmost1⟩ := HT.out
      clear hrow hfr
      go_wp2_with fail
      clear x0 x1 y0 y1 z0 z1 fr BW1 hbig1 hmore1 hmost1
      go_loopw [8] (fun qx wq => ∃ q : Nat, q ≤ n + m ∧ qx = .int .i64 q ∧ TimesW w s a n c t b m d₁ g F wq)
        (fun qx _ => n + m - (intOf qx).toNat)
      case atStart => exact ⟨0, Nat.zero_le _, rfl, HT.out⟩
      case round =>
        obtain ⟨q, hq, rfl, hT3⟩ := hrel
        have HT3 := Lib.hid hT3
        clear hT3 HT
        have qn := HMN.out.nn q
        have ql := HMN.out.le q
        have pn := HMN.out.nn (q + 1)
        have pl := HMN.out.le (q + 1)
        by_cases hlq : q < n + m
        · have r0 := HT3.out.row q (by omega)
          have r1 := HT3.out.row (q + 1) (by omega)
          have f0 := HT3.out.frr q
          have f1 := HT3.out.frr (q + 1)
          have T4 := (HT3.out.set (p := q + 1) (by omega) (F (q + 1))).drew
          rw [upd_self] at T4
          have HT4 := Lib.hid T4
          clear T4
          have td : (F q).tdiv 10 = 0 := by rw [Int.tdiv_eq_ediv_of_nonneg qn]; omega
          have wp5 : IntKind.i64.wrap ((q : Int) + 1) = (q : Int) + 1 := IntWalk.i64_in _ (by omega)
          have wp6 : IntKind.i64.wrap (F (q + 1)) = F (q + 1) := IntWalk.i64_in _ (by omega)
          have tn5 : ((q : Int) + 1).toNat = q + 1 := by omega
          have lt5 : (q : Int) + 1 < (n : Int) + m + 1 := by omega
          go_upto_region 14 with fail
          go_region
          clear r0 r1 f0 f1 HT3 wp5 wp6 tn5 lt5 td pn pl
          generalize (wr.setCell ⟨g, q + 1, none⟩ (.int .i64 (F (q + 1)))).drew = W1 at *
          have e0 := HT4.out.row q (by omega)
          have e1 := HT4.out.frr q
          have tm : (F q).tmod 10 = F q := by rw [Int.tmod_eq_emod_of_nonneg qn]; omega
          have em : F q % 10 = F q := by omega
          have T5 := HT4.out.set (p := q) (by omega) (F q)
          rw [upd_self] at T5
          have HT5 := Lib.hid T5
          clear T5
          go_wp2_with fail
          go_roundw
          case rel => exact ⟨q + 1, by omega, by go_num, HT5.out⟩
          case measure => simp [intOf]; omega
        · obtain ⟨⟨BW4, hbig4, x0, x1, y0, y1, z0, z1, fr⟩, hrow, hfr, hmore4, hmost4⟩ := HT3.out
          have hR : RowF wr (some ⟨g, 0, none⟩) (n + m + 1) (n + m + 1) F := .inr ⟨g, 0, rfl, hmost4, Nat.le_refl _, fun j hj => by rw [Nat.zero_add]; exact hrow j hj⟩
          have hD : Dg F (n + m + 1) := fun j _ => ⟨HMN.out.nn j, HMN.out.le j⟩
          have hv := HMN.out.val
          rw [vs_dgt D n n (Nat.le_refl _), vs_dgt E m m (Nat.le_refl _)] at hv
          have HVV := Lib.hid hv
          clear hrow hfr hv qn ql pn pl
          go_wp2_with ((go_at_call 53; refine ((trim_any _ _ _ _ F _ hR (by omega))).mono ?_; rintro e w1 ⟨rfl, hb1⟩; have hB1 : Below w.heap.size w w1 := (by refine Below.trans ?_ (hb1.mono (by first | omega | (simp; done) | (simp; omega))); (repeat (first | exact Below.refl _ _ | assumption | refine Below.drew ?_ | refine below_drewN ?_ _ | refine Below.setCell ?_ (by first | omega | (simp; done) | (simp; omega)) _ | refine Below.alloc ?_ (by first | omega | (simp; done) | (simp; omega)) _))); have hsz1 : w.heap.size ≤ w1.heap.size := hB1.size; replace z0 := keepc hb1 (by first | exact z0 | exact keepa z0 | exact keepa (keepa z0) | (simp [go_sem, *]; done)); replace z1 := keepc hb1 (by first | exact z1 | exact keepa z1 | exact keepa (keepa z1) | (simp [go_sem, *]; done))); have g0 := (hb1.frozen (p := ⟨w.heap.size + 1 + 1, 0, none⟩) hbig4).trans (fr 0); have g1 := (hb1.frozen (p := ⟨w.heap.size + 1 + 1, 1, none⟩) hbig4).trans (fr 1))
          have Z := sum_end (!(s == t)) (.bool (!(s == t) && decide (0 < tl F (n + m + 1)))) (.slice (some ⟨g, 0, none⟩) (tl F (n + m + 1)) (n + m + 1)) hB1 hR hb1 (by omega) hD HVV.out (fun b off e => by cases e; exact hmore)
          rw [show (if (!(s == t)) = true then -(vs D 0 n * vs E 0 m) else vs D 0 n * vs E 0 m) = X from HX.out] at Z
          exact bodyPost_ret (v := .agg #[.bool (!(s == t) && decide (0 < tl F (n + m + 1))), .slice (some ⟨g, 0, none⟩) (tl F (n + m + 1)) (n + m + 1)]) (by simp [results, Try.results41, go_sem, z0, z1]) rfl ⟨Z.1, _, rfl, Z.2⟩
theorem times_num {w : World} {va vb : Value} {A B : Int} (ha : NumV w va A) (hb : NumV w vb B) (sa : Small A) (sb : Small B) : Calls Try.prog 41 #[va, vb] w (RetNum (A * B) w) := by
  obtain ⟨a, n, c, D, rfl, ra, hc, da, ta, ea⟩ := ha
  obtain ⟨b, m, d, E, rfl, rb, hd, db, tb, eb⟩ := hb
  have hn := num_small da ta ea sa
  have hm := num_small db tb eb sb
  have fa := side (N := A) rfl ea
  have fb := side (N := B) rfl eb
  refine times_any _ _ a b n m c d D E w ra rb hn hm da db _ ?_
  generalize decide (A < 0) = s at *
  generalize decide (B < 0) = t at *
  rw [fa, fb]
  cases s <;> cases t <;> simp [Int.neg_mul, Int.mul_neg]
end Go.Proofs.Ytfghjfgdjlkooaa
/-
  Plain facts for the reference's numbers: no int lies in a block; small ones.
-/
namespace Go.Proofs.Ytfghjfgdjlkooaa
open Go.RowKit
open Go.BigFrame

theorem p41 : p10 41 = 100000000000000000000000000000000000000000 := rfl
theorem small_of {N : Int} (h : N.natAbs ≤ 10000000000000000000000000000000000000000) : Small N := by
  unfold Small
  have e := p10_add 41 59
  have p := p10_pos 59
  have : p10 41 * 1 ≤ p10 41 * p10 59 := Int.mul_le_mul_of_nonneg_left p (by have := p10_pos 41; omega)
  rw [p41] at this e
  have e' : p10 100 = 100000000000000000000000000000000000000000 * p10 59 := e
  omega
/-- No int lies in the block. -/
def NoInt (W : World) (g : Nat) : Prop := ∀ k x, W.cell? ⟨g, k, none⟩ ≠ some (.int .i64 x)
theorem RowF.setN {W : World} {a : Option Addr} {n c : Nat} {D : Nat → Int} (h : RowF W a n c D) {g : Nat} (hg : NoInt W g) (o : Nat) (v : Value) : RowF (W.setCell ⟨g, o, none⟩ v) a n c D := by
  rcases h with h | ⟨b, off, ha, hl, hc, h⟩
  · exact .inl h
  · refine .inr ⟨b, off, ha, Nat.lt_of_lt_of_le hl ((Below.refl 0 W).setCell (p := ⟨g, o, none⟩) (Nat.zero_le _) v).size, hc, fun i hi => ?_⟩
    exact cell_other (h i hi) (fun e => hg (off + i) (D i) (by have := h i hi; rw [show b = g from e] at this; exact this))
theorem NoInt.keep {W W' : World} {g : Nat} (h : NoInt W g) (hb : Below W.heap.size W W') (hg : g < W.heap.size) : NoInt W' g := fun k x e => h k x ((hb.cell (p := ⟨g, k, none⟩) hg).symm.trans e)
theorem NoInt.set {W : World} {g : Nat} (h : NoInt W g) {o : Nat} {v : Value} (hv : ∀ x, v ≠ .int .i64 x) (he : Has W ⟨g, o, none⟩) : NoInt (W.setCell ⟨g, o, none⟩ v) g := fun k x e => by
  obtain ⟨u, hu⟩ := he
  by_cases hk : k = o
  · subst hk
    simp [go_sem, hu] at e
    exact hv x e
  · have := h k x
    simp [go_sem] at e
    exact this e
theorem NoInt.alloc {W : World} {x y : Value} {T : TypeId} {g : Nat} (hg : g = W.heap.size) (hx : ∀ v, x ≠ .int .i64 v) (hy : ∀ v, y ≠ .int .i64 v) : NoInt (W.alloc (.cells #[x, y] T)) g := fun k v e => by
  subst hg
  match k with
  | 0 => simp at e; exact hx v e
  | 1 => simp at e; exact hy v e
  | k + 2 => simp at e
theorem NumV.setN {W : World} {v : Value} {N : Int} (h : NumV W v N) {g : Nat} (hg : NoInt W g) (o : Nat) (u : Value) : NumV (W.setCell ⟨g, o, none⟩ u) v N := by
  obtain ⟨a, n, c, D, h1, h2, h3⟩ := h
  exact ⟨a, n, c, D, h1, h2.setN hg o u, h3⟩
theorem num_open {w : World} {v : Value} {N : Int} (h : NumV w v N) : ∃ s a n c, v = .agg #[.bool s, .slice a n c] := by
  obtain ⟨a, n, c, D, h1, _⟩ := h
  exact ⟨_, _, _, _, h1⟩

end Go.Proofs.Ytfghjfgdjlkooaa
/-
  What a region's rule wants of a number's block (rel.py's allocn).
-/
namespace Go.Proofs.Ytfghjfgdjlkooaa
theorem noIntN {W : World} {g : Nat} {T : TypeId} {x : Bool} {p : Option Addr} {q r : Nat} (h : Lok W g T #[.bool x, .slice p q r]) : NoInt W g := fun k v e => by
  unfold Lok at h
  simp [World.cell?, h] at e
  rcases k with _ | _ | k <;> simp at e
theorem noIntN0 {W : World} {g : Nat} {T : TypeId} {x : Bool} {p : Option Addr} {q r : Nat} (h : Lok W g T #[.bool x, .slice p q r]) (z : Bool) : NoInt (W.setCell ⟨g, 0, none⟩ (.bool z)) g := (noIntN h).set (fun _ e => by cases e) ⟨_, h.cell (i := 0) rfl⟩
/-- A small product of two right parts. -/
theorem small_prod {a b : Int} (ha : -1000000000000000000 ≤ a ∧ a ≤ 1000000000000000000) (hb : -1000000000000000000 ≤ b ∧ b ≤ 1000000000000000000) : Small (a * b) ∧ Small a ∧ Small b := by
  have h := Nat.mul_le_mul (show a.natAbs ≤ 1000000000000000000 by omega) (show b.natAbs ≤ 1000000000000000000 by omega)
  refine ⟨small_of ?_, small_of (by omega), small_of (by omega)⟩
  rw [Int.natAbs_mul]
  exact Nat.le_trans h (by decide)
end Go.Proofs.Ytfghjfgdjlkooaa
/-
  The reference's numbers: Other.
-/
namespace Go.Proofs.Ytfghjfgdjlkooaa
open Go.RowKit
open Go.BigFrame

set_option maxRecDepth 100000 in
set_option maxHeartbeats 1000000 in
theorem other_row (s : Bool) (a : Option Addr) (n c : Nat) (D : Nat → Int) (w : World) (ra : RowF w a n c D) (hc : c ≤ 9223372036854775807) (da : Dg D n) (X : Int) (hX : (if !s then -(vs D 0 n) else vs D 0 n) = X) :
    Calls Try.prog 55 #[.agg #[.bool s, .slice a n c]] w (RetNum X w) := by
  have HX := Lib.hid hX
  clear hX
  have hbl : ∀ b off, a = some ⟨b, off, none⟩ → b ≠ w.heap.size + 1 := fun b off e => by
    rcases ra with ⟨h, _⟩ | ⟨b', off', h, hl, _⟩
    · rw [h] at e; cases e
    · rw [h] at e; cases e; omega
  go_enter Try.func55, Try.ntmps55
  have rW := ra.keep (W' := (w.alloc (.cells #[.bool s, .slice a n c] 70)).alloc (.cells #[.bool false, .slice none 0 0] 70)) (by (repeat (first | exact Below.refl _ _ | assumption | refine Below.drew ?_ | refine below_drewN ?_ _ | refine Below.setCell ?_ (by first | omega | (simp; done) | (simp; omega)) _ | refine Below.alloc ?_ (by first | omega | (simp; done) | (simp; omega)) _)))
  have z0 : ((w.alloc (.cells #[.bool s, .slice a n c] 70)).alloc (.cells #[.bool false, .slice none 0 0] 70)).cell? ⟨w.heap.size + 1, 0, none⟩ = some (.bool false) := alloc_cell (by simp) rfl
  have z1 : ((w.alloc (.cells #[.bool s, .slice a n c] 70)).alloc (.cells #[.bool false, .slice none 0 0] 70)).cell? ⟨w.heap.size + 1, 1, none⟩ = some (.slice none 0 0) := alloc_cell (by simp) rfl
  have f0 : ∀ o, ((w.alloc (.cells #[.bool s, .slice a n c] 70)).alloc (.cells #[.bool false, .slice none 0 0] 70)).frozen? ⟨w.heap.size + 1, o, none⟩ = false := fun o => alloc_frozen (by simp)
  go_wp2_with ((go_at_call 53; refine ((trim_any _ _ _ _ D _ rW hc)).mono ?_; rintro e w1 ⟨rfl, hb1⟩; have hB1 : Below w.heap.size w w1 := (by refine Below.trans ?_ (hb1.mono (by first | omega | (simp; done) | (simp; omega))); (repeat (first | exact Below.refl _ _ | assumption | refine Below.drew ?_ | refine below_drewN ?_ _ | refine Below.setCell ?_ (by first | omega | (simp; done) | (simp; omega)) _ | refine Below.alloc ?_ (by first | omega | (simp; done) | (simp; omega)) _))); have hsz1 : w.heap.size ≤ w1.heap.size := hB1.size; replace z0 := keepc hb1 (by first | exact z0 | exact keepa z0 | exact keepa (keepa z0) | (simp [go_sem, *]; done)); replace z1 := keepc hb1 (by first | exact z1 | exact keepa z1 | exact keepa (keepa z1) | (simp [go_sem, *]; done))); have g0 := (hb1.frozen (p := ⟨w.heap.size + 1, 0, none⟩) (by simp)).trans (f0 0); have g1 := (hb1.frozen (p := ⟨w.heap.size + 1, 1, none⟩) (by simp)).trans (f0 1))
  have Z := num_of_trim (s := !s) (((rW.keep hb1).set (p := ⟨w.heap.size + 1, 0, none⟩) hbl (.bool (!s && decide (0 < tl D n)))).set (p := ⟨w.heap.size + 1, 1, none⟩) hbl (.slice a (tl D n) c)) hc da
  rw [HX.out] at Z
  exact bodyPost_ret (v := .agg #[.bool (!s && decide (0 < tl D n)), .slice a (tl D n) c]) (by simp [results, Try.results55, go_sem, z0, z1]) rfl ⟨by (repeat (first | exact Below.refl _ _ | assumption | refine Below.drew ?_ | refine below_drewN ?_ _ | refine Below.setCell ?_ (by first | omega | (simp; done) | (simp; omega)) _ | refine Below.alloc ?_ (by first | omega | (simp; done) | (simp; omega)) _)), _, rfl, Z⟩
theorem other_any {w : World} {v : Value} {A : Int} (ha : NumV w v A) : Calls Try.prog 55 #[v] w (RetNum (-A) w) := by
  obtain ⟨a, n, c, D, rfl, ra, hc, da, ta, ea⟩ := ha
  have := other_row (decide (A < 0)) a n c D w ra hc da _ rfl
  have fa := side (N := A) rfl ea
  generalize decide (A < 0) = s at *
  cases s
  · simp only [Bool.false_eq_true, if_false] at fa
    rw [fa]; simpa using this
  · simp only [if_true] at fa
    rw [fa, Int.neg_neg]; simpa using this
end Go.Proofs.Ytfghjfgdjlkooaa
/-
  The reference's Less.
-/
namespace Go.Proofs.Ytfghjfgdjlkooaa
open Go.RowKit

set_option maxRecDepth 100000 in
set_option maxHeartbeats 1000000 in
theorem less_any {w : World} {va vb : Value} {A B : Int} (ha : NumV w va A) (hb : NumV w vb B) (sa : Small A) (sb : Small B) :
    Calls Try.prog 43 #[va, vb] w fun e w' => e = .returned (.bool (decide (A < B))) ∧ Below w.heap.size w w' := by
  have HA := Lib.hid ha
  have HB := Lib.hid hb
  have sb' : Small (-B) := by unfold Small at sb ⊢; rw [Int.natAbs_neg]; exact sb
  have HLT : Hid (decide (A + -B < 0) = decide (A < B)) := Lib.hid (decide_eq_decide.2 (by omega))
  obtain ⟨s, a, n, c, rfl⟩ := num_open ha
  obtain ⟨t, b, m, d, rfl⟩ := num_open hb
  clear ha hb
  go_enter Try.func43, Try.ntmps43
  have B0 : Below w.heap.size w ((w.alloc (.cells #[.bool s, .slice a n c] 70)).alloc (.cells #[.bool t, .slice b m d] 70)) := by (repeat (first | exact Below.refl _ _ | assumption | refine Below.drew ?_ | refine below_drewN ?_ _ | refine Below.setCell ?_ (by first | omega | (simp; done) | (simp; omega)) _ | refine Below.alloc ?_ (by first | omega | (simp; done) | (simp; omega)) _))
  have x0 : ((w.alloc (.cells #[.bool s, .slice a n c] 70)).alloc (.cells #[.bool t, .slice b m d] 70)).cell? ⟨w.heap.size, 0, none⟩ = some (.bool s) := keepa (alloc_cell rfl rfl)
  have x1 : ((w.alloc (.cells #[.bool s, .slice a n c] 70)).alloc (.cells #[.bool t, .slice b m d] 70)).cell? ⟨w.heap.size, 1, none⟩ = some (.slice a n c) := keepa (alloc_cell rfl rfl)
  have y0 : ((w.alloc (.cells #[.bool s, .slice a n c] 70)).alloc (.cells #[.bool t, .slice b m d] 70)).cell? ⟨w.heap.size + 1, 0, none⟩ = some (.bool t) := alloc_cell (by simp) rfl
  have y1 : ((w.alloc (.cells #[.bool s, .slice a n c] 70)).alloc (.cells #[.bool t, .slice b m d] 70)).cell? ⟨w.heap.size + 1, 1, none⟩ = some (.slice b m d) := alloc_cell (by simp) rfl
  go_upto_region 1 with fail
  generalize ((w.alloc (.cells #[.bool s, .slice a n c] 70)).alloc (.cells #[.bool t, .slice b m d] 70)) = V at *
  have HVA := Lib.hid (HA.out.keep B0)
  have HVB := Lib.hid (HB.out.keep B0)
  refine wp_region_rel (by kernel_rfl) [5, 6, 7, 8, 9] ?F ?hF
    (fun L u W => Below V.heap.size V W ∧ (L 0 = true → u 6 = .agg #[.bool s, .slice a n c]) ∧ (L 1 = true → u 7 = .agg #[.bool t, .slice b m d]) ∧ (L 2 = true → L 3 = false → NumV W (u 8) (-B)) ∧ (L 3 = true → NumV W (u 9) (A + -B))
      ∧ (L 4 = true → ∃ g x p q r, u 5 = .pointer (some ⟨g, 0, none⟩) ∧ V.heap.size ≤ g ∧ Lok W g 70 #[.bool x, .slice p q r] ∧ (L 5 = true → L 3 = true ∧ u 9 = .agg #[.bool x, .slice p q r])) ∧ (L 5 = true → L 4 = true)) (by kernel_rfl) (by kernel_rfl) 6 rfl ?h0 ?step ?fin
  case hF => intro u; simp only [putAll, Act.put, List.setIfInBounds_toArray, List.set]; exact rfl
  case h0 => intro L u hL; exact ⟨(Below.refl _ _).drew, fun h => by simp [hL] at h, fun h => by simp [hL] at h, fun h => by simp [hL] at h, fun h => by simp [hL] at h, fun h => by simp [hL] at h, fun h => by simp [hL] at h⟩
  case fin =>
    rintro L u W hL ⟨hB, -, -, -, h3, h4, -⟩
    have z := h3 (hL 3 (by decide))
    obtain ⟨g, x, p, q, r, e5, hg, hlok, e9⟩ := h4 (hL 4 (by decide))
    have e9' := (e9 (hL 5 (by decide))).2
    rw [e9'] at z
    obtain ⟨a9, n9, c9, D9, e, -⟩ := z
    cases e
    have k0 := hlok.cell (i := 0) rfl
    simp only [e5]
    clear h3 h4 e9 hL
    go_wp2
    go_ret
    exact ⟨by rw [← HLT.out]; rfl, B0.trans (hB.mono B0.size)⟩
  case step =>
    refine ops_all (ops_cons ?s0 (ops_cons ?s1 (ops_cons ?s2 (ops_cons ?s3 (ops_cons ?s4 (ops_cons ?s5 ops_nil))))))
    case s0 =>
      rintro L u W ⟨hB, h0, h1, h2, h3, h4, h5⟩ hf hd K hK
      dsimp only at hK
      have c0 := keepc hB x0
      have c1 := keepc hB x1
      go_simp
      refine hK _ _ ?_ (fun h => by cases h)
      intro s hs
      cases hs
      exact ⟨hB, fun _ => rfl, h1, h2, h3, h4, h5⟩
    case s1 =>
      rintro L u W ⟨hB, h0, h1, h2, h3, h4, h5⟩ hf hd K hK
      dsimp only at hK
      have c0 := keepc hB y0
      have c1 := keepc hB y1
      go_simp
      refine hK _ _ ?_ (fun h => by cases h)
      intro s hs
      cases hs
      exact ⟨hB, h0, fun _ => rfl, h2, h3, h4, h5⟩
    case s2 =>
      rintro L u W ⟨hB, h0, h1, h2, h3, h4, h5⟩ hf hd K hK
      dsimp only at hK
      simp [Region.binds] at hd
      have e1 := h1 hd
      rw [e1] at hK
      go_simp
      go_wp2_with (go_at_call 55; refine (other_any (HVB.out.keep hB)).mono ?_; rintro e w5 ⟨hb, v5, rfl, q5⟩)
      refine hK _ _ ?_ (fun h => by cases h)
      intro s hs
      cases hs
      exact ⟨hB.trans (hb.mono hB.size), h0, h1, fun _ _ => q5, fun h => (h3 h).keep hb, fun h => by obtain ⟨g, x, p, q, r, k1, k2, k3, k4⟩ := h4 h; exact ⟨g, x, p, q, r, k1, k2, k3.keep hb, k4⟩, h5⟩
    case s3 =>
      rintro L u W ⟨hB, h0, h1, h2, h3, h4, h5⟩ hf hd K hK
      dsimp only at hK
      simp [Region.binds] at hd
      have e0 := h0 hd.1
      have q2 := h2 hd.2 hf
      rw [e0] at hK
      go_simp
      go_wp2_with (go_at_call 54; refine (sum_any (HVA.out.keep hB) q2 sa sb').mono ?_; rintro e w5 ⟨hb, v5, rfl, q5⟩)
      refine hK _ _ ?_ (fun h => by cases h)
      intro s hs
      cases hs
      exact ⟨hB.trans (hb.mono hB.size), h0, h1, (fun _ h => by cases h), fun _ => q5, fun h => by obtain ⟨g, x, p, q, r, k1, k2, k3, k4⟩ := h4 h; exact ⟨g, x, p, q, r, k1, k2, k3.keep hb, fun h => absurd (k4 h).1 (by rw [hf]; decide)⟩, h5⟩
    case s4 =>
      rintro L u W ⟨hB, h0, h1, h2, h3, h4, h5⟩ hf hd K hK
      dsimp only at hK
      go_simp
      have hb : Below W.heap.size W (W.alloc (.cells #[.bool false, .slice none 0 0] 70)) := (Below.refl _ W).alloc (Nat.le_refl _) _
      refine hK _ _ ?_ (fun h => by cases h)
      intro s hs
      cases hs
      exact ⟨hB.trans (hb.mono hB.size), h0, h1, fun h k => (h2 h k).keep hb, fun h => (h3 h).keep hb, fun _ => ⟨_, _, _, _, _, rfl, hB.size, Lok.new _ _ _, fun h => absurd (h5 h) (by rw [hf]; decide)⟩, fun _ => rfl⟩
    case s5 =>
      rintro L u W ⟨hB, h0, h1, h2, h3, h4, h5⟩ hf hd K hK
      dsimp only at hK
      simp [Region.binds] at hd
      obtain ⟨g, x, p, q, r, e5, k2, k3, k4⟩ := h4 hd.1
      have z := h3 hd.2.1
      obtain ⟨a9, n9, c9, D9, e9, -⟩ := z
      have z := h3 hd.2.1
      rw [e5, e9] at hK
      rw [e9] at z
      have c0 := k3.cell (i := 0) rfl
      have c1 := k3.cell (i := 1) rfl
      have f0 := k3.frozen 0
      have f1 := k3.frozen 1
      have HD := Lib.hid hd
      clear hd
      go_simp
      have hlok := (k3.set (i := 0) (v := .bool (decide (A + -B < 0)))).set (i := 1) (v := .slice a9 n9 c9)
      have hni : ∀ W' cs, Lok W' g 70 cs → (∀ (i : Nat) v, cs[i]? = some (.int .i64 v) → False) → NoInt W' g := fun W' cs hl hc k v e => by
        unfold Lok at hl; simp [World.cell?, hl] at e; exact hc k v e
      have z1 := (z.setN (g := g) (hni _ _ k3 (fun i v e => by rcases i with _ | _ | i <;> simp at e)) 0 (.bool (decide (A + -B < 0)))).setN (g := g) (hni _ _ k3.set (fun i v e => by rcases i with _ | _ | i <;> simp at e)) 1 (.slice a9 n9 c9)
      refine hK undef _ (fun s h => by cases h) (fun _ => ?_)
      exact ⟨(hB.setCell k2 _).setCell k2 _, h0, h1, (fun _ h => absurd HD.out.2.1 (by rw [show L 3 = false from h]; decide)), fun _ => z1, fun _ => ⟨g, _, _, _, _, rfl, k2, hlok, fun _ => ⟨HD.out.2.1, rfl⟩⟩, fun _ => HD.out.1⟩
end Go.Proofs.Ytfghjfgdjlkooaa
/-
  Contracts of package frac: how two of a row stand; the least of a row.
-/
namespace Go.Proofs.Ytfghjfgdjlkooaa
open Go.RowKit

/-- How two of a row stand. -/
def cmpK (F : Nat → Nat → Int) (i j : Nat) : Int := cmpF (F i 0) (F i 1) (F j 0) (F j 1)
theorem cmpK_bd (F : Nat → Nat → Int) (i j : Nat) : -1 ≤ cmpK F i j ∧ cmpK F i j ≤ 1 := cmpF_bd _ _ _ _
def PastF (V W : World) : Prop := Below V.heap.size V W
theorem past_stays (V : World) : Stays (PastF V) := fun _ _ h hb => Below.trans h (hb.mono (Below.size h))

/-- The place of the first one than which none is less. -/
def lsF (F : Nat → Nat → Int) : Nat → Nat
  | 0 => 0
  | k + 1 => if cmpK F k (lsF F k) < 0 then k else lsF F k
theorem lsF_le (F : Nat → Nat → Int) (k : Nat) : lsF F k ≤ k - 1 := by
  induction k with
  | zero => exact Nat.le_refl _
  | succ k ih => unfold lsF; split <;> omega
theorem lsF_lt (F : Nat → Nat → Int) {k : Nat} (h : 0 < k) : lsF F k < k := by have := lsF_le F k; omega
theorem lsF_take (F : Nat → Nat → Int) {k : Nat} (h : cmpK F k (lsF F k) < 0) : lsF F (k + 1) = k := by show (if _ then _ else _) = _; rw [if_pos h]
theorem lsF_keep (F : Nat → Nat → Int) {k : Nat} (h : ¬ cmpK F k (lsF F k) < 0) : lsF F (k + 1) = lsF F k := by show (if _ then _ else _) = _; rw [if_neg h]

end Go.Proofs.Ytfghjfgdjlkooaa
