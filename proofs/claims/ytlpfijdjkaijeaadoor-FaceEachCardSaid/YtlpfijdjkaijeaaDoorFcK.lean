/-
  Package face: areAlike. (gen/FcK.py)
-/
import Derived.Test.YtlpfijdjkaijeaaDoorOpenK
import Derived.Test.YtlpfijdjkaijeaaDoorRel
import Derived.Test.YtlpfijdjkaijeaaDoorItS
namespace Go.Proofs.YtlpfijdjkaijeaaDoor
open Go.RowKit

/-- Do k corners tell alike what p asks of their second and third number? -/
def alG (p : Int → Bool) (F : Nat → Nat → Int) : Nat → Bool
  | 0 => true
  | k + 1 => alG p F k && ((p (F k 1) == p (F 0 1)) && (p (F k 2) == p (F 0 2)))
theorem alG_stop (p : Int → Bool) (F : Nat → Nat → Int) {k : Nat} (h : alG p F k = false) : ∀ m, alG p F (k + m) = false := by
  intro m
  induction m with
  | zero => exact h
  | succ m ih => show (alG p F (k + m) && _) = false; rw [ih]; rfl
theorem alG_no {p : Int → Bool} {F : Nat → Nat → Int} {k n : Nat} (hk : k < n) (h : ((p (F k 1) == p (F 0 1)) && (p (F k 2) == p (F 0 2))) = false) : alG p F n = false := by
  have e : alG p F (k + 1) = false := by show (alG p F k && _) = false; rw [h, Bool.and_false]
  have := alG_stop p F e (n - (k + 1))
  rwa [show k + 1 + (n - (k + 1)) = n from by omega] at this
theorem alG_yes {p : Int → Bool} {F : Nat → Nat → Int} {k : Nat} (hk : alG p F k = true) (h : ((p (F k 1) == p (F 0 1)) && (p (F k 2) == p (F 0 2))) = true) : alG p F (k + 1) = true := by
  show (alG p F k && _) = true; rw [hk, h]; rfl
theorem rowK_cell {W : World} {b off n k i j : Nat} {F : Nat → Nat → Int} (h : RowK W (some ⟨b, off, none⟩) n k F) (hi : i < n) (hj : j < k) : W.cell? ⟨b, off + (i * k + j), none⟩ = some (.int .i64 (F i j)) := by
  obtain ⟨b', off', ha, _, h⟩ := h.at hi
  cases ha
  exact h i hi j hj
def isM (x : Int) : Bool := x == -1

set_option maxRecDepth 100000 in
set_option maxHeartbeats 4000000 in
theorem alike_any (A : Option Addr) (n c : Nat) (F : Nat → Nat → Int) (w : World) (hr : RowK w A n 3 F) (hn : n ≤ 1000) :
    Calls Tryd.prog 30 #[.slice A n c] w fun e w' => e = .returned (.bool (alG isM F n)) ∧ Below w.heap.size w w' := by
  have R := Lib.hid hr
  have HB := Lib.hid (Below.refl w.heap.size w)
  clear hr
  go_enter Tryd.func30, Tryd.ntmps30
  go_wp2_with fail
  go_loopw [7] (fun x wr => ∃ k : Nat, x = .int .i64 k ∧ k ≤ n ∧ alG isM F k = true ∧ Below w.heap.size w wr) (fun x _ => n - (intOf x).toNat)
  case atStart => exact ⟨0, rfl, Nat.zero_le _, rfl, HB.out⟩
  case round =>
    clear HB
    obtain ⟨k, rfl, hk, hA, hB⟩ := hrel
    have HB := Lib.hid hB
    have HA := Lib.hid hA
    clear hB hA
    by_cases hlt : k < n
    · obtain ⟨b, off, rfl, hl, hc⟩ := (R.out.keep HB.out).at hlt
      have i0 : (0 : Int) ≤ (k : Int) := by omega
      have i1 : (k : Int) < n := by omega
      have n0 : 0 < n := by omega
      have c0 := hc k hlt 0 (by decide)
      have c1 := hc k hlt 1 (by decide)
      have c2 := hc k hlt 2 (by decide)
      have d1 := hc 0 n0 1 (by decide)
      have d2 := hc 0 n0 2 (by decide)
      rw [Nat.add_zero] at c0
      rw [← Nat.add_assoc] at c1 c2
      rw [Nat.zero_mul] at d1 d2
      have N1 : Hid ((((F k 1 == -1) == (F 0 1 == -1)) && ((F k 2 == -1) == (F 0 2 == -1))) = false → alG isM F n = false) := Lib.hid (fun h => alG_no hlt h)
      have Y1 : Hid ((((F k 1 == -1) == (F 0 1 == -1)) && ((F k 2 == -1) == (F 0 2 == -1))) = true → alG isM F (k + 1) = true) := Lib.hid (fun h => alG_yes HA.out h)
      obtain ⟨x0, hx0⟩ : ∃ x, F k 0 = x := ⟨_, rfl⟩
      obtain ⟨x1, hx1⟩ : ∃ x, F k 1 = x := ⟨_, rfl⟩
      obtain ⟨x2, hx2⟩ : ∃ x, F k 2 = x := ⟨_, rfl⟩
      obtain ⟨y1, hy1⟩ : ∃ x, F 0 1 = x := ⟨_, rfl⟩
      obtain ⟨y2, hy2⟩ : ∃ x, F 0 2 = x := ⟨_, rfl⟩
      rw [hx0] at c0
      rw [hx1] at c1 N1 Y1
      rw [hx2] at c2 N1 Y1
      rw [hy1] at N1 Y1
      rw [hy2] at N1 Y1
      have HY := Lib.hid (And.intro hy1 hy2)
      clear hx0 hx1 hx2 hy1 hy2 hc d1 d2
      go_upto_region 4 with fail
      clear c0 c1 c2
      have hbx := below_new1 wr (.cells #[.int .i64 x0, .int .i64 x1, .int .i64 x2] 23)
      have zx : (wr.alloc (.cells #[.int .i64 x0, .int .i64 x1, .int .i64 x2] 23)).heap.size = wr.heap.size + 1 := by simp
      replace HB := Lib.hid (HB.out.trans (hbx.mono HB.out.size))
      have kx := Lib.hid (Lok.new wr 23 #[.int .i64 x0, .int .i64 x1, .int .i64 x2])
      clear hbx
      generalize wr.alloc (.cells #[.int .i64 x0, .int .i64 x1, .int .i64 x2] 23) = Vx at *
      have e1 := kx.out.cell (i := 1) rfl
      have e2 := kx.out.cell (i := 2) rfl
      have d1 : Vx.cell? ⟨b, off + 1, none⟩ = some (.int .i64 y1) := by have := rowK_cell (R.out.keep HB.out) n0 (j := 1) (by decide); rw [HY.out.1] at this; rwa [Nat.zero_mul] at this
      have d2 : Vx.cell? ⟨b, off + 2, none⟩ = some (.int .i64 y2) := by have := rowK_cell (R.out.keep HB.out) n0 (j := 2) (by decide); rw [HY.out.2] at this; rwa [Nat.zero_mul] at this
      clear HY zx kx
      by_cases a : x1 = -1
      · have qa : (x1 == -1) = true := by rw [beq_iff_eq]; exact a
        by_cases b : y1 = -1
        · have qb : (y1 == -1) = true := by rw [beq_iff_eq]; exact b
          by_cases cc : x2 = -1
          · have qcc : (x2 == -1) = true := by rw [beq_iff_eq]; exact cc
            by_cases dd : y2 = -1
            · have qdd : (y2 == -1) = true := by rw [beq_iff_eq]; exact dd
              have AY := Lib.hid (Y1.out (by simp [qa, qb, qcc, qdd]))
              go_quiet (fail)
              go_wp2_with fail
              go_roundw
              case rel => exact ⟨k + 1, by go_num, hlt, AY.out, below_drewN HB.out _⟩
              case measure => simp [intOf]; omega
            · have qdd : (y2 == -1) = false := by rw [beq_eq_false_iff_ne]; exact dd
              have AN := Lib.hid (N1.out (by simp [qa, qb, qcc, qdd]))
              go_quiet (fail)
              go_wp2_with fail
              go_ret
              exact ⟨by rw [AN.out]; rfl, below_drewN HB.out _⟩
          · have qcc : (x2 == -1) = false := by rw [beq_eq_false_iff_ne]; exact cc
            by_cases dd : y2 = -1
            · have qdd : (y2 == -1) = true := by rw [beq_iff_eq]; exact dd
              have AN := Lib.hid (N1.out (by simp [qa, qb, qcc, qdd]))
              go_quiet (fail)
              go_wp2_with fail
              go_ret
              exact ⟨by rw [AN.out]; rfl, below_drewN HB.out _⟩
            · have qdd : (y2 == -1) = false := by rw [beq_eq_false_iff_ne]; exact dd
              have AY := Lib.hid (Y1.out (by simp [qa, qb, qcc, qdd]))
              go_quiet (fail)
              go_wp2_with fail
              go_roundw
              case rel => exact ⟨k + 1, by go_num, hlt, AY.out, below_drewN HB.out _⟩
              case measure => simp [intOf]; omega
        · have qb : (y1 == -1) = false := by rw [beq_eq_false_iff_ne]; exact b
          have AN := Lib.hid (N1.out (by simp [qa, qb]))
          go_quiet (fail)
          go_wp2_with fail
          go_ret
          exact ⟨by rw [AN.out]; rfl, below_drewN HB.out _⟩
      · have qa : (x1 == -1) = false := by rw [beq_eq_false_iff_ne]; exact a
        by_cases b : y1 = -1
        · have qb : (y1 == -1) = true := by rw [beq_iff_eq]; exact b
          have AN := Lib.hid (N1.out (by simp [qa, qb]))
          go_quiet (fail)
          go_wp2_with fail
          go_ret
          exact ⟨by rw [AN.out]; rfl, below_drewN HB.out _⟩
        · have qb : (y1 == -1) = false := by rw [beq_eq_false_iff_ne]; exact b
          by_cases cc : x2 = -1
          · have qcc : (x2 == -1) = true := by rw [beq_iff_eq]; exact cc
            by_cases dd : y2 = -1
            · have qdd : (y2 == -1) = true := by rw [beq_iff_eq]; exact dd
              have AY := Lib.hid (Y1.out (by simp [qa, qb, qcc, qdd]))
              go_quiet (fail)
              go_wp2_with fail
              go_roundw
              case rel => exact ⟨k + 1, by go_num, hlt, AY.out, below_drewN HB.out _⟩
              case measure => simp [intOf]; omega
            · have qdd : (y2 == -1) = false := by rw [beq_eq_false_iff_ne]; exact dd
              have AN := Lib.hid (N1.out (by simp [qa, qb, qcc, qdd]))
              go_quiet (fail)
              go_wp2_with fail
              go_ret
              exact ⟨by rw [AN.out]; rfl, below_drewN HB.out _⟩
          · have qcc : (x2 == -1) = false := by rw [beq_eq_false_iff_ne]; exact cc
            by_cases dd : y2 = -1
            · have qdd : (y2 == -1) = true := by rw [beq_iff_eq]; exact dd
              have AN := Lib.hid (N1.out (by simp [qa, qb, qcc, qdd]))
              go_quiet (fail)
              go_wp2_with fail
              go_ret
              exact ⟨by rw [AN.out]; rfl, below_drewN HB.out _⟩
            · have qdd : (y2 == -1) = false := by rw [beq_eq_false_iff_ne]; exact dd
              have AY := Lib.hid (Y1.out (by simp [qa, qb, qcc, qdd]))
              go_quiet (fail)
              go_wp2_with fail
              go_roundw
              case rel => exact ⟨k + 1, by go_num, hlt, AY.out, below_drewN HB.out _⟩
              case measure => simp [intOf]; omega
    · obtain rfl : k = n := by omega
      go_wp2_with fail
      go_ret
      exact ⟨by rw [HA.out]; rfl, HB.out⟩
end Go.Proofs.YtlpfijdjkaijeaaDoor