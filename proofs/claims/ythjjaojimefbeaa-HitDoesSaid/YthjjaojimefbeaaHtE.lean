/-
  The reference limewashref12: Own, Same. (gen/HtE.py)
-/
import Derived.Test.YthjjaojimefbeaaVcEq
import Derived.Test.YthjjaojimefbeaaAppK
import Derived.Test.YthjjaojimefbeaaWideR
import Derived.ChangeKeysEq
import Derived.BigQuiet
namespace Go.Proofs.Ythjjaojimefbeaa
open Go.RowKit

theorem infoV3 : ∃ i, Try.prog.info? 23 = some i := by
  cases h : Try.prog.info? 23 with
  | some i => exact ⟨i, rfl⟩
  | none =>
    have k : (Try.prog.info? 23).isSome = true := by kernel_rfl
    rw [h] at k; cases k
theorem cellsV3 : Try.prog.cellsOf 23 = 3 := by kernel_rfl
theorem eq_v3 (W : World) (x y z : Int) : (Op.equalIn 9999 23 (.agg #[.int .i64 x, .int .i64 y, .int .i64 z]) (.agg #[.int .i64 x, .int .i64 y, .int .i64 z])).run Try.prog W = .ok true W := by
  simp [go_sem]
set_option maxRecDepth 100000 in
theorem eq_t33 (W : World) (x0 x1 x2 x3 x4 x5 x6 x7 x8 : Int) : (Op.equalIn 10000 24 (.agg #[.int .i64 x0, .int .i64 x1, .int .i64 x2, .int .i64 x3, .int .i64 x4, .int .i64 x5, .int .i64 x6, .int .i64 x7, .int .i64 x8]) (.agg #[.int .i64 x0, .int .i64 x1, .int .i64 x2, .int .i64 x3, .int .i64 x4, .int .i64 x5, .int .i64 x6, .int .i64 x7, .int .i64 x8])).run Try.prog W = .ok true W := by
  obtain ⟨i, hi⟩ := infoV3
  rw [run_equalIn_array W 9999 _ _ Try.underlying24 hi, cellsV3]
  have r : List.range 3 = [0, 1, 2] := rfl
  rw [r]
  simp [Op.eqItems, go_sem]
@[go_sem high] theorem neq_t33 (W : World) (x0 x1 x2 x3 x4 x5 x6 x7 x8 : Int) : (binOp .neq 24 (.agg #[.int .i64 x0, .int .i64 x1, .int .i64 x2, .int .i64 x3, .int .i64 x4, .int .i64 x5, .int .i64 x6, .int .i64 x7, .int .i64 x8]) (.agg #[.int .i64 x0, .int .i64 x1, .int .i64 x2, .int .i64 x3, .int .i64 x4, .int .i64 x5, .int .i64 x6, .int .i64 x7, .int .i64 x8])).run Try.prog W = .ok (.bool false) W := by
  rw [run_neq_struct, eq_t33]; rfl

set_option maxRecDepth 100000 in
set_option maxHeartbeats 8000000 in
theorem rsame_any (A B : Option Addr) (n c d : Nat) (F : Nat → Nat → Int) (w : World) (ha : RowK w A n 9 F) (hb : RowK w B n 9 F) (hn : n ≤ 1000) :
    Calls Try.prog 16 #[.slice A n c, .slice B n d] w fun e w' => e = .returned (.bool true) ∧ Below w.heap.size w w' := by
  have RA := Lib.hid ha
  have RB := Lib.hid hb
  have HB := Lib.hid (Below.refl w.heap.size w)
  clear ha hb
  go_enter Try.func16, Try.ntmps16
  go_wp2_with fail
  go_loopw [5] (fun x wr => ∃ k : Nat, x = .int .i64 k ∧ k ≤ n ∧ Below w.heap.size w wr) (fun x _ => n - (intOf x).toNat)
  case atStart => exact ⟨0, rfl, Nat.zero_le _, HB.out⟩
  case round =>
    clear HB
    obtain ⟨k, rfl, hk, hB⟩ := hrel
    have HB := Lib.hid hB
    clear hB
    by_cases hlt : k < n
    · obtain ⟨b1, o1, rfl, hl1, hc⟩ := (RA.out.keep HB.out).at hlt
      obtain ⟨b2, o2, rfl, hl2, hd⟩ := (RB.out.keep HB.out).at hlt
      have i0 : (0 : Int) ≤ (k : Int) := by omega
      have i1 : (k : Int) < n := by omega
      have c0 := hc k hlt 0 (by decide)
      have d0 := hd k hlt 0 (by decide)
      have c1 := hc k hlt 1 (by decide)
      have d1 := hd k hlt 1 (by decide)
      have c2 := hc k hlt 2 (by decide)
      have d2 := hd k hlt 2 (by decide)
      have c3 := hc k hlt 3 (by decide)
      have d3 := hd k hlt 3 (by decide)
      have c4 := hc k hlt 4 (by decide)
      have d4 := hd k hlt 4 (by decide)
      have c5 := hc k hlt 5 (by decide)
      have d5 := hd k hlt 5 (by decide)
      have c6 := hc k hlt 6 (by decide)
      have d6 := hd k hlt 6 (by decide)
      have c7 := hc k hlt 7 (by decide)
      have d7 := hd k hlt 7 (by decide)
      have c8 := hc k hlt 8 (by decide)
      have d8 := hd k hlt 8 (by decide)
      rw [Nat.add_zero] at c0 d0
      rw [← Nat.add_assoc] at c1 d1 c2 d2 c3 d3 c4 d4 c5 d5 c6 d6 c7 d7 c8 d8
      obtain ⟨x0, hx0⟩ : ∃ x, F k 0 = x := ⟨_, rfl⟩
      rw [hx0] at c0 d0
      clear hx0
      obtain ⟨x1, hx1⟩ : ∃ x, F k 1 = x := ⟨_, rfl⟩
      rw [hx1] at c1 d1
      clear hx1
      obtain ⟨x2, hx2⟩ : ∃ x, F k 2 = x := ⟨_, rfl⟩
      rw [hx2] at c2 d2
      clear hx2
      obtain ⟨x3, hx3⟩ : ∃ x, F k 3 = x := ⟨_, rfl⟩
      rw [hx3] at c3 d3
      clear hx3
      obtain ⟨x4, hx4⟩ : ∃ x, F k 4 = x := ⟨_, rfl⟩
      rw [hx4] at c4 d4
      clear hx4
      obtain ⟨x5, hx5⟩ : ∃ x, F k 5 = x := ⟨_, rfl⟩
      rw [hx5] at c5 d5
      clear hx5
      obtain ⟨x6, hx6⟩ : ∃ x, F k 6 = x := ⟨_, rfl⟩
      rw [hx6] at c6 d6
      clear hx6
      obtain ⟨x7, hx7⟩ : ∃ x, F k 7 = x := ⟨_, rfl⟩
      rw [hx7] at c7 d7
      clear hx7
      obtain ⟨x8, hx8⟩ : ∃ x, F k 8 = x := ⟨_, rfl⟩
      rw [hx8] at c8 d8
      clear hx8
      clear hc hd
      go_wp2_with fail
      go_quiet (fail)
      go_wp2_with fail
      go_roundw
      case rel => exact ⟨k + 1, by go_num, hlt, below_drewN HB.out _⟩
      case measure => simp [intOf]; omega
    · go_wp2_with fail
      go_ret
      exact ⟨rfl, HB.out⟩

theorem infoT3 : (Try.prog.info? 24).map (fun i => (i.zero, i.size, i.bytes)) = some (some (.agg #[.int .i64 0, .int .i64 0, .int .i64 0, .int .i64 0, .int .i64 0, .int .i64 0, .int .i64 0, .int .i64 0, .int .i64 0]), 9, 72) := by kernel_rfl
/-- What Own leaves. -/
def OwnPost (F : Nat → Nat → Int) (n : Nat) (w : World) (e : Ending) (w' : World) : Prop :=
  ∃ (A : Option Addr) (c : Nat), e = .returned (.slice A n c) ∧ (A = none → n = 0 ∧ c = 0) ∧ n ≤ c ∧ c ≤ 9223372036854775807 ∧ Below w.heap.size w w' ∧ RowK w' A n 9 F
set_option maxRecDepth 100000 in
theorem rown_any (A : Option Addr) (n c : Nat) (F : Nat → Nat → Int) (w : World) (hA : A = none → n = 0 ∧ c = 0) (hr : RowK w A n 9 F) (hn : n ≤ 1000000) :
    Calls Try.prog 8 #[.slice A n c] w (OwnPost F n w) := by
  have R := Lib.hid hr
  clear hr
  go_enter Try.func8, Try.ntmps8
  obtain ⟨i0, hi, hz0, hz1, hz2⟩ := info_parts infoT3
  go_wp2_with (first
    | (at_builtin; refine wpList_append_rowk rfl _ _ 25 rfl w.heap.size 24 i0 _ 9 72 Try.underlying25 hi hz0 hz1 hz2 rfl (by decide) A n c F rfl rfl hA R.out ?c3 ?c4 (Nat.le_refl _) ?_))
  case c3 => unfold maxLen; omega
  case c4 => omega
  intro A' c' w' h1 h2 h3 h4 h5
  have H := Lib.hid (And.intro h1 (And.intro h2 (And.intro h3 (And.intro h5 h4))))
  clear h1 h2 h3 h4 h5
  go_wp2
  go_ret
  exact ⟨A', c', rfl, H.out⟩
end Go.Proofs.Ythjjaojimefbeaa
