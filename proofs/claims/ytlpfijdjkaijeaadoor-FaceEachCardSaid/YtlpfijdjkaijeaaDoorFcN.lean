/-
  The reference of layer 7: Same. (gen/FcN.py)
-/
import Derived.Test.YtlpfijdjkaijeaaDoorFcK
import Derived.ChangeKeysEq
namespace Go.Proofs.YtlpfijdjkaijeaaDoor
open Go.RowKit

theorem eq_corner (W : World) (x y z : Int) : (Op.equalIn 9999 23 (.agg #[.int .i64 x, .int .i64 y, .int .i64 z]) (.agg #[.int .i64 x, .int .i64 y, .int .i64 z])).run Tryd.prog W = .ok true W := by
  simp [go_sem]
theorem infoCn : ∃ i, Tryd.prog.info? 23 = some i := by
  cases h : Tryd.prog.info? 23 with
  | some i => exact ⟨i, rfl⟩
  | none =>
    have k : (Tryd.prog.info? 23).isSome = true := by kernel_rfl
    rw [h] at k; cases k
theorem cellsC : Tryd.prog.cellsOf 23 = 3 := by kernel_rfl
set_option maxRecDepth 100000 in
theorem eq_tri (W : World) (x0 x1 x2 x3 x4 x5 x6 x7 x8 : Int) : (Op.equalIn 10000 45 (.agg #[.int .i64 x0, .int .i64 x1, .int .i64 x2, .int .i64 x3, .int .i64 x4, .int .i64 x5, .int .i64 x6, .int .i64 x7, .int .i64 x8]) (.agg #[.int .i64 x0, .int .i64 x1, .int .i64 x2, .int .i64 x3, .int .i64 x4, .int .i64 x5, .int .i64 x6, .int .i64 x7, .int .i64 x8])).run Tryd.prog W = .ok true W := by
  obtain ⟨i, hi⟩ := infoCn
  rw [run_equalIn_array W 9999 _ _ Tryd.underlying45 hi, cellsC]
  have r : List.range 3 = [0, 1, 2] := rfl
  rw [r]
  simp [Op.eqItems, go_sem]
@[go_sem high] theorem neq_tri (W : World) (x0 x1 x2 x3 x4 x5 x6 x7 x8 : Int) : (binOp .neq 45 (.agg #[.int .i64 x0, .int .i64 x1, .int .i64 x2, .int .i64 x3, .int .i64 x4, .int .i64 x5, .int .i64 x6, .int .i64 x7, .int .i64 x8]) (.agg #[.int .i64 x0, .int .i64 x1, .int .i64 x2, .int .i64 x3, .int .i64 x4, .int .i64 x5, .int .i64 x6, .int .i64 x7, .int .i64 x8])).run Tryd.prog W = .ok (.bool false) W := by
  rw [run_neq_struct, eq_tri]; rfl

set_option maxRecDepth 100000 in
set_option maxHeartbeats 8000000 in
theorem same9 (A B : Option Addr) (n c d : Nat) (F : Nat → Nat → Int) (w : World) (ha : RowK w A n 9 F) (hb : RowK w B n 9 F) (hn : n ≤ 1000) :
    Calls Tryd.prog 18 #[.slice A n c, .slice B n d] w fun e w' => e = .returned (.bool true) ∧ Below w.heap.size w w' := by
  have RA := Lib.hid ha
  have RB := Lib.hid hb
  have HB := Lib.hid (Below.refl w.heap.size w)
  clear ha hb
  go_enter Tryd.func18, Tryd.ntmps18
  go_wp2_with fail
  go_loopw [5] (fun x wr => ∃ k : Nat, x = .int .i64 k ∧ k ≤ n ∧ Below w.heap.size w wr) (fun x _ => n - (intOf x).toNat)
  case atStart => exact ⟨0, rfl, Nat.zero_le _, HB.out⟩
  case round =>
    clear HB
    obtain ⟨k, rfl, hk, hB⟩ := hrel
    have HB := Lib.hid hB
    clear hB
    by_cases hlt : k < n
    · obtain ⟨b1, o1, rfl, hl1, hc⟩ := (RA.out.keep HB.out).at hlt
      obtain ⟨b2, o2, rfl, hl2, hd⟩ := (RB.out.keep HB.out).at hlt
      have i0 : (0 : Int) ≤ (k : Int) := by omega
      have i1 : (k : Int) < n := by omega
      have c0 := hc k hlt 0 (by decide)
      have d0 := hd k hlt 0 (by decide)
      have c1 := hc k hlt 1 (by decide)
      have d1 := hd k hlt 1 (by decide)
      have c2 := hc k hlt 2 (by decide)
      have d2 := hd k hlt 2 (by decide)
      have c3 := hc k hlt 3 (by decide)
      have d3 := hd k hlt 3 (by decide)
      have c4 := hc k hlt 4 (by decide)
      have d4 := hd k hlt 4 (by decide)
      have c5 := hc k hlt 5 (by decide)
      have d5 := hd k hlt 5 (by decide)
      have c6 := hc k hlt 6 (by decide)
      have d6 := hd k hlt 6 (by decide)
      have c7 := hc k hlt 7 (by decide)
      have d7 := hd k hlt 7 (by decide)
      have c8 := hc k hlt 8 (by decide)
      have d8 := hd k hlt 8 (by decide)
      rw [Nat.add_zero] at c0 d0
      rw [← Nat.add_assoc] at c1 d1 c2 d2 c3 d3 c4 d4 c5 d5 c6 d6 c7 d7 c8 d8
      obtain ⟨x0, hx0⟩ : ∃ x, F k 0 = x := ⟨_, rfl⟩
      rw [hx0] at c0 d0
      clear hx0
      obtain ⟨x1, hx1⟩ : ∃ x, F k 1 = x := ⟨_, rfl⟩
      rw [hx1] at c1 d1
      clear hx1
      obtain ⟨x2, hx2⟩ : ∃ x, F k 2 = x := ⟨_, rfl⟩
      rw [hx2] at c2 d2
      clear hx2
      obtain ⟨x3, hx3⟩ : ∃ x, F k 3 = x := ⟨_, rfl⟩
      rw [hx3] at c3 d3
      clear hx3
      obtain ⟨x4, hx4⟩ : ∃ x, F k 4 = x := ⟨_, rfl⟩
      rw [hx4] at c4 d4
      clear hx4
      obtain ⟨x5, hx5⟩ : ∃ x, F k 5 = x := ⟨_, rfl⟩
      rw [hx5] at c5 d5
      clear hx5
      obtain ⟨x6, hx6⟩ : ∃ x, F k 6 = x := ⟨_, rfl⟩
      rw [hx6] at c6 d6
      clear hx6
      obtain ⟨x7, hx7⟩ : ∃ x, F k 7 = x := ⟨_, rfl⟩
      rw [hx7] at c7 d7
      clear hx7
      obtain ⟨x8, hx8⟩ : ∃ x, F k 8 = x := ⟨_, rfl⟩
      rw [hx8] at c8 d8
      clear hx8
      clear hc hd
      go_wp2_with fail
      go_quiet (fail)
      go_wp2_with fail
      go_roundw
      case rel => exact ⟨k + 1, by go_num, hlt, below_drewN HB.out _⟩
      case measure => simp [intOf]; omega
    · go_wp2_with fail
      go_ret
      exact ⟨rfl, HB.out⟩
end Go.Proofs.YtlpfijdjkaijeaaDoor
