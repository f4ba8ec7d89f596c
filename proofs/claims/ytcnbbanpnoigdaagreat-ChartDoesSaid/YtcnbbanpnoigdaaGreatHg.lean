import Derived.Test.YtcnbbanpnoigdaaGreatHb
import Derived.Test.YtcnbbanpnoigdaaGreatHc
import Derived.Test.YtcnbbanpnoigdaaGreatBase
import Derived.Lib.MinMax
namespace Go.Proofs.YtcnbbanpnoigdaaGreat

def plB (p m : Int) : Bool := decide (0 ≤ p ∧ p < m)
def pnB (p m : Int) : Bool := decide (-1 ≤ p ∧ p < m)
theorem plB_iff {p m : Int} : plB p m = true ↔ 0 ≤ p ∧ p < m := decide_eq_true_iff
theorem pnB_iff {p m : Int} : pnB p m = true ↔ -1 ≤ p ∧ p < m := decide_eq_true_iff
theorem plB_ge {p m : Int} (h : 0 ≤ p) : plB p m = decide (p < m) := decide_eq_decide.2 ⟨fun q => q.2, fun q => ⟨h, q⟩⟩
theorem plB_no {p m : Int} (h : ¬ 0 ≤ p) : plB p m = false := decide_eq_false (fun q => h q.1)
theorem pnB_none {p m : Int} (h : p = -1) (hm : 0 ≤ m) : pnB p m = true := decide_eq_true (by omega)
theorem pnB_other {p m : Int} (h : ¬ p = -1) : pnB p m = plB p m := decide_eq_decide.2 (by omega)
def cnB (n1 n2 n3 : Nat) (v t u t0 u0 : Int) : Bool := plB v n1 && (pnB t n2 && (pnB u n3 && (((t == -1) == (t0 == -1)) && ((u == -1) == (u0 == -1)))))
def trB (n1 n2 n3 : Nat) (c : Nat → Int) : Bool := allB (fun k => cnB n1 n2 n3 (c (k * 3)) (c (k * 3 + 1)) (c (k * 3 + 2)) (c 1) (c 2)) 3
def shB (n1 n2 n3 n4 : Nat) : Bool := decide (n1 ≤ 2000 ∧ n2 ≤ 2000 ∧ n3 ≤ 2000) && decide (n4 ≤ 500)
theorem shB_iff {n1 n2 n3 n4 : Nat} : shB n1 n2 n3 n4 = true ↔ (n1 ≤ 2000 ∧ n2 ≤ 2000 ∧ n3 ≤ 2000) ∧ n4 ≤ 500 := by unfold shB; rw [Bool.and_eq_true, decide_eq_true_iff, decide_eq_true_iff]
theorem shB_no {n1 n2 n3 n4 : Nat} (h : ¬ ((n1 ≤ 2000 ∧ n2 ≤ 2000 ∧ n3 ≤ 2000) ∧ n4 ≤ 500)) : shB n1 n2 n3 n4 = false := by
 cases e : shB n1 n2 n3 n4 with
 | false => rfl
 | true => exact absurd (shB_iff.1 e) h
def msB (n1 n2 n3 n4 : Nat) (FV FT FN FC : Nat → Nat → Int) : Bool := shB n1 n2 n3 n4 && (a3 FV n1 && (a2 FT n2 && (a3 FN n3 && allB (fun i => trB n1 n2 n3 (FC i)) n4)))
theorem beq_kind {a b c : Int} : ((a == c) == (b == c)) = true ↔ (a = c ↔ b = c) := by
 rw [beq_iff_eq, Bool.eq_iff_iff]
 constructor
 ·intro h; rwa [beq_iff_eq, beq_iff_eq] at h
 ·intro h; rwa [beq_iff_eq, beq_iff_eq]
theorem cnB_iff {n1 n2 n3 : Nat} {v t u t0 u0 : Int} : cnB n1 n2 n3 v t u t0 u0 = true ↔ (0 ≤ v ∧ v < n1) ∧ (-1 ≤ t ∧ t < n2) ∧ (-1 ≤ u ∧ u < n3) ∧ (t = -1 ↔ t0 = -1) ∧ (u = -1 ↔ u0 = -1) := by
 unfold cnB;rw [Bool.and_eq_true, Bool.and_eq_true, Bool.and_eq_true, Bool.and_eq_true, plB_iff, pnB_iff, pnB_iff, beq_kind, beq_kind]
theorem trB_iff {n1 n2 n3 : Nat} {c : Nat → Int} : trB n1 n2 n3 c = true ↔ ∀ k, k < 3 → cnB n1 n2 n3 (c (k * 3)) (c (k * 3 + 1)) (c (k * 3 + 2)) (c 1) (c 2) = true := allB_iff _ _
end Go.Proofs.YtcnbbanpnoigdaaGreat
namespace Go.Proofs.YtcnbbanpnoigdaaGreat

def ed3 (x y a b : Int) : Bool := decide (¬ x = y ∧ (x = a ∧ y = b ∨ x = b ∧ y = a))
theorem ed3_yes {x y a b : Int} (h : ¬ x = y) (k : x = a ∧ y = b ∨ x = b ∧ y = a) : ed3 x y a b = true := decide_eq_true ⟨h, k⟩
theorem ed3_no {x y a b : Int} (h : ¬ (¬ x = y ∧ (x = a ∧ y = b ∨ x = b ∧ y = a))) : ed3 x y a b = false := decide_eq_false h
theorem ed3_iff {x y a b : Int} : ed3 x y a b = true ↔ ¬ x = y ∧ (x = a ∧ y = b ∨ x = b ∧ y = a) := decide_eq_true_iff
def hasB (x y z a b : Int) : Bool := ed3 x y a b || (ed3 y z a b || ed3 z x a b)
def nxE (x y z u v w : Int) : Bool := ((x != y) && hasB u v w x y) || (((y != z) && hasB u v w y z) || ((z != x) && hasB u v w z x))
def nxB (F : Nat → Nat → Int) (i k : Nat) : Bool := (i != k) && nxE (F i 0) (F i 3) (F i 6) (F k 0) (F k 3) (F k 6)
theorem hasB_iff {x y z a b : Int} : hasB x y z a b = true ↔ ed3 x y a b = true ∨ ed3 y z a b = true ∨ ed3 z x a b = true := by
 unfold hasB; rw [Bool.or_eq_true, Bool.or_eq_true]
end Go.Proofs.YtcnbbanpnoigdaaGreat
namespace Go.Proofs.YtcnbbanpnoigdaaGreat
open Go.RowKit

set_option maxRecDepth 100000 in
set_option maxHeartbeats 16000000 in
theorem rhas_any (v0 t0 u0 v1 t1 u1 v2 t2 u2 a b : Int) (w : World) :
  Calls Tryz.prog 84 #[.agg #[.int .i64 v0, .int .i64 t0, .int .i64 u0, .int .i64 v1, .int .i64 t1, .int .i64 u1, .int .i64 v2, .int .i64 t2, .int .i64 u2], .int .i64 a, .int .i64 b] w fun e' w' => e' = .returned (.bool (hasB v0 v1 v2 a b)) ∧ Below w.heap.size w w' := by
 have HB := Lib.hid (Below.refl w.heap.size w);obtain ⟨z, hz⟩ : ∃ z, z = hasB v0 v1 v2 a b := ⟨_, rfl⟩;rw [← hz];have HZ := Lib.hid hz;clear hz
 go_enter Tryz.func84, Tryz.ntmps84
 go_upto_region 1 with fail
 have hbt := below_new1 w (.cells #[.int .i64 v0, .int .i64 t0, .int .i64 u0, .int .i64 v1, .int .i64 t1, .int .i64 u1, .int .i64 v2, .int .i64 t2, .int .i64 u2] 88)
 have zt : (w.alloc (.cells #[.int .i64 v0, .int .i64 t0, .int .i64 u0, .int .i64 v1, .int .i64 t1, .int .i64 u1, .int .i64 v2, .int .i64 t2, .int .i64 u2] 88)).heap.size = w.heap.size + 1 := by simp
 have HB := Lib.hid hbt;have kt := Lib.hid (Lok.new w 88 #[.int .i64 v0, .int .i64 t0, .int .i64 u0, .int .i64 v1, .int .i64 t1, .int .i64 u1, .int .i64 v2, .int .i64 t2, .int .i64 u2]);clear hbt;generalize w.alloc (.cells #[.int .i64 v0, .int .i64 t0, .int .i64 u0, .int .i64 v1, .int .i64 t1, .int .i64 u1, .int .i64 v2, .int .i64 t2, .int .i64 u2] 88) = Vt at *;clear zt
 go_wp2_with fail
 have HB0 := HB;have kt0 := kt;clear HB kt
 go_loopw [7] (fun x wr => ∃ k : Nat, x = .int .i64 k ∧ k ≤ 3 ∧ (0 < k → ed3 v0 v1 a b = false) ∧ (1 < k → ed3 v1 v2 a b = false) ∧ (2 < k → ed3 v2 v0 a b = false) ∧ Below Vt.heap.size Vt wr) (fun x _ => 3 - (intOf x).toNat)
 case atStart => exact ⟨0, rfl, by omega, fun h => absurd h (by omega), fun h => absurd h (by omega), fun h => absurd h (by omega), Below.refl _ _⟩
 case round =>
  obtain ⟨k, rfl, hk, A0, A1, A2, hB⟩ := hrel;have A := Lib.hid (And.intro A0 (And.intro A1 A2));clear A0 A1 A2;have HB := Lib.hid (HB0.out.trans (hB.mono HB0.out.size));have kt := Lib.hid (kt0.out.keep hB);have B0 := Lib.hid hB;clear hB
  rcases (show k = 0 ∨ k = 1 ∨ k = 2 ∨ k = 3 by omega) with rfl | rfl | rfl | rfl
  ·skip
   by_cases h0 : v0 = v1
   ·have E : Hid (ed3 v0 v1 a b = false) := Lib.hid (ed3_no (by omega))
    subst h0;have g0 := kt.out.cell (i := 0) rfl;have g3 := kt.out.cell (i := 3) rfl;have g6 := kt.out.cell (i := 6) rfl;clear HZ
    go_wp2
    go_roundw
    case rel => exact ⟨1, by go_num, by omega, fun _ => E.out, fun h => absurd h (by omega), fun h => absurd h (by omega), B0.out⟩
    case measure => simp [intOf]
   ·have nh0 : (v0 == v1) = false := by rw [beq_eq_false_iff_ne]; exact h0
    have m0 : (v0 != v1) = true := by rw [bne, nh0]; rfl
    by_cases h1 : v0 = a
    ·by_cases h2 : v1 = b
     ·have E : Hid (z = true) := Lib.hid (by rw [HZ.out]; exact hasB_iff.2 (.inl (ed3_yes h0 (by omega))))
      subst h1;subst h2;have g0 := kt.out.cell (i := 0) rfl;have g3 := kt.out.cell (i := 3) rfl;have g6 := kt.out.cell (i := 6) rfl;clear HZ A
      go_wp2
      go_ret
      exact ⟨by rw [E.out]; rfl, HB.out⟩
     ·have nh2 : (v1 == b) = false := by rw [beq_eq_false_iff_ne]; exact h2
      by_cases h3 : v0 = b
      ·have E : Hid (ed3 v0 v1 a b = false) := Lib.hid (ed3_no (by omega))
       subst h1;subst h3;have g0 := kt.out.cell (i := 0) rfl;have g3 := kt.out.cell (i := 3) rfl;have g6 := kt.out.cell (i := 6) rfl;clear HZ
       go_wp2
       go_roundw
       case rel => exact ⟨1, by go_num, by omega, fun _ => E.out, fun h => absurd h (by omega), fun h => absurd h (by omega), B0.out⟩
       case measure => simp [intOf]
      ·have nh3 : (v0 == b) = false := by rw [beq_eq_false_iff_ne]; exact h3
       have E : Hid (ed3 v0 v1 a b = false) := Lib.hid (ed3_no (by omega));subst h1;have g0 := kt.out.cell (i := 0) rfl;have g3 := kt.out.cell (i := 3) rfl;have g6 := kt.out.cell (i := 6) rfl;clear HZ
       go_wp2
       go_roundw
       case rel => exact ⟨1, by go_num, by omega, fun _ => E.out, fun h => absurd h (by omega), fun h => absurd h (by omega), B0.out⟩
       case measure => simp [intOf]
    ·have nh1 : (v0 == a) = false := by rw [beq_eq_false_iff_ne]; exact h1
     by_cases h3 : v0 = b
     ·by_cases h4 : v1 = a
      ·have E : Hid (z = true) := Lib.hid (by rw [HZ.out]; exact hasB_iff.2 (.inl (ed3_yes h0 (by omega))))
       subst h3;subst h4;have g0 := kt.out.cell (i := 0) rfl;have g3 := kt.out.cell (i := 3) rfl;have g6 := kt.out.cell (i := 6) rfl;clear HZ A
       go_wp2
       go_ret
       exact ⟨by rw [E.out]; rfl, HB.out⟩
      ·have nh4 : (v1 == a) = false := by rw [beq_eq_false_iff_ne]; exact h4
       have E : Hid (ed3 v0 v1 a b = false) := Lib.hid (ed3_no (by omega));subst h3;have g0 := kt.out.cell (i := 0) rfl;have g3 := kt.out.cell (i := 3) rfl;have g6 := kt.out.cell (i := 6) rfl;clear HZ
       go_wp2
       go_roundw
       case rel => exact ⟨1, by go_num, by omega, fun _ => E.out, fun h => absurd h (by omega), fun h => absurd h (by omega), B0.out⟩
       case measure => simp [intOf]
     ·have nh3 : (v0 == b) = false := by rw [beq_eq_false_iff_ne]; exact h3
      have E : Hid (ed3 v0 v1 a b = false) := Lib.hid (ed3_no (by omega));have g0 := kt.out.cell (i := 0) rfl;have g3 := kt.out.cell (i := 3) rfl;have g6 := kt.out.cell (i := 6) rfl;clear HZ
      go_wp2
      go_roundw
      case rel => exact ⟨1, by go_num, by omega, fun _ => E.out, fun h => absurd h (by omega), fun h => absurd h (by omega), B0.out⟩
      case measure => simp [intOf]
  ·skip
   by_cases h0 : v1 = v2
   ·have E : Hid (ed3 v1 v2 a b = false) := Lib.hid (ed3_no (by omega))
    subst h0;have g0 := kt.out.cell (i := 0) rfl;have g3 := kt.out.cell (i := 3) rfl;have g6 := kt.out.cell (i := 6) rfl;clear HZ
    go_wp2
    go_roundw
    case rel => exact ⟨2, by go_num, by omega, fun _ => A.out.1 (by omega), fun _ => E.out, fun h => absurd h (by omega), B0.out⟩
    case measure => simp [intOf]
   ·have nh0 : (v1 == v2) = false := by rw [beq_eq_false_iff_ne]; exact h0
    have m0 : (v1 != v2) = true := by rw [bne, nh0]; rfl
    by_cases h1 : v1 = a
    ·by_cases h2 : v2 = b
     ·have E : Hid (z = true) := Lib.hid (by rw [HZ.out]; exact hasB_iff.2 (.inr <| .inl (ed3_yes h0 (by omega))))
      subst h1;subst h2;have g0 := kt.out.cell (i := 0) rfl;have g3 := kt.out.cell (i := 3) rfl;have g6 := kt.out.cell (i := 6) rfl;clear HZ A
      go_wp2
      go_ret
      exact ⟨by rw [E.out]; rfl, HB.out⟩
     ·have nh2 : (v2 == b) = false := by rw [beq_eq_false_iff_ne]; exact h2
      by_cases h3 : v1 = b
      ·have E : Hid (ed3 v1 v2 a b = false) := Lib.hid (ed3_no (by omega))
       subst h1;subst h3;have g0 := kt.out.cell (i := 0) rfl;have g3 := kt.out.cell (i := 3) rfl;have g6 := kt.out.cell (i := 6) rfl;clear HZ
       go_wp2
       go_roundw
       case rel => exact ⟨2, by go_num, by omega, fun _ => A.out.1 (by omega), fun _ => E.out, fun h => absurd h (by omega), B0.out⟩
       case measure => simp [intOf]
      ·have nh3 : (v1 == b) = false := by rw [beq_eq_false_iff_ne]; exact h3
       have E : Hid (ed3 v1 v2 a b = false) := Lib.hid (ed3_no (by omega));subst h1;have g0 := kt.out.cell (i := 0) rfl;have g3 := kt.out.cell (i := 3) rfl;have g6 := kt.out.cell (i := 6) rfl;clear HZ
       go_wp2
       go_roundw
       case rel => exact ⟨2, by go_num, by omega, fun _ => A.out.1 (by omega), fun _ => E.out, fun h => absurd h (by omega), B0.out⟩
       case measure => simp [intOf]
    ·have nh1 : (v1 == a) = false := by rw [beq_eq_false_iff_ne]; exact h1
     by_cases h3 : v1 = b
     ·by_cases h4 : v2 = a
      ·have E : Hid (z = true) := Lib.hid (by rw [HZ.out]; exact hasB_iff.2 (.inr <| .inl (ed3_yes h0 (by omega))))
       subst h3;subst h4;have g0 := kt.out.cell (i := 0) rfl;have g3 := kt.out.cell (i := 3) rfl;have g6 := kt.out.cell (i := 6) rfl;clear HZ A
       go_wp2
       go_ret
       exact ⟨by rw [E.out]; rfl, HB.out⟩
      ·have nh4 : (v2 == a) = false := by rw [beq_eq_false_iff_ne]; exact h4
       have E : Hid (ed3 v1 v2 a b = false) := Lib.hid (ed3_no (by omega));subst h3;have g0 := kt.out.cell (i := 0) rfl;have g3 := kt.out.cell (i := 3) rfl;have g6 := kt.out.cell (i := 6) rfl;clear HZ
       go_wp2
       go_roundw
       case rel => exact ⟨2, by go_num, by omega, fun _ => A.out.1 (by omega), fun _ => E.out, fun h => absurd h (by omega), B0.out⟩
       case measure => simp [intOf]
     ·have nh3 : (v1 == b) = false := by rw [beq_eq_false_iff_ne]; exact h3
      have E : Hid (ed3 v1 v2 a b = false) := Lib.hid (ed3_no (by omega));have g0 := kt.out.cell (i := 0) rfl;have g3 := kt.out.cell (i := 3) rfl;have g6 := kt.out.cell (i := 6) rfl;clear HZ
      go_wp2
      go_roundw
      case rel => exact ⟨2, by go_num, by omega, fun _ => A.out.1 (by omega), fun _ => E.out, fun h => absurd h (by omega), B0.out⟩
      case measure => simp [intOf]
  ·skip
   by_cases h0 : v2 = v0
   ·have E : Hid (ed3 v2 v0 a b = false) := Lib.hid (ed3_no (by omega))
    subst h0;have g0 := kt.out.cell (i := 0) rfl;have g3 := kt.out.cell (i := 3) rfl;have g6 := kt.out.cell (i := 6) rfl;clear HZ
    go_wp2
    go_roundw
    case rel => exact ⟨3, by go_num, by omega, fun _ => A.out.1 (by omega), fun _ => A.out.2.1 (by omega), fun _ => E.out, B0.out⟩
    case measure => simp [intOf]
   ·have nh0 : (v2 == v0) = false := by rw [beq_eq_false_iff_ne]; exact h0
    have m0 : (v2 != v0) = true := by rw [bne, nh0]; rfl
    by_cases h1 : v2 = a
    ·by_cases h2 : v0 = b
     ·have E : Hid (z = true) := Lib.hid (by rw [HZ.out]; exact hasB_iff.2 (.inr <| .inr (ed3_yes h0 (by omega))))
      subst h1;subst h2;have g0 := kt.out.cell (i := 0) rfl;have g3 := kt.out.cell (i := 3) rfl;have g6 := kt.out.cell (i := 6) rfl;clear HZ A
      go_wp2
      go_ret
      exact ⟨by rw [E.out]; rfl, HB.out⟩
     ·have nh2 : (v0 == b) = false := by rw [beq_eq_false_iff_ne]; exact h2
      by_cases h3 : v2 = b
      ·have E : Hid (ed3 v2 v0 a b = false) := Lib.hid (ed3_no (by omega))
       subst h1;subst h3;have g0 := kt.out.cell (i := 0) rfl;have g3 := kt.out.cell (i := 3) rfl;have g6 := kt.out.cell (i := 6) rfl;clear HZ
       go_wp2
       go_roundw
       case rel => exact ⟨3, by go_num, by omega, fun _ => A.out.1 (by omega), fun _ => A.out.2.1 (by omega), fun _ => E.out, B0.out⟩
       case measure => simp [intOf]
      ·have nh3 : (v2 == b) = false := by rw [beq_eq_false_iff_ne]; exact h3
       have E : Hid (ed3 v2 v0 a b = false) := Lib.hid (ed3_no (by omega));subst h1;have g0 := kt.out.cell (i := 0) rfl;have g3 := kt.out.cell (i := 3) rfl;have g6 := kt.out.cell (i := 6) rfl;clear HZ
       go_wp2
       go_roundw
       case rel => exact ⟨3, by go_num, by omega, fun _ => A.out.1 (by omega), fun _ => A.out.2.1 (by omega), fun _ => E.out, B0.out⟩
       case measure => simp [intOf]
    ·have nh1 : (v2 == a) = false := by rw [beq_eq_false_iff_ne]; exact h1
     by_cases h3 : v2 = b
     ·by_cases h4 : v0 = a
      ·have E : Hid (z = true) := Lib.hid (by rw [HZ.out]; exact hasB_iff.2 (.inr <| .inr (ed3_yes h0 (by omega))))
       subst h3;subst h4;have g0 := kt.out.cell (i := 0) rfl;have g3 := kt.out.cell (i := 3) rfl;have g6 := kt.out.cell (i := 6) rfl;clear HZ A
       go_wp2
       go_ret
       exact ⟨by rw [E.out]; rfl, HB.out⟩
      ·have nh4 : (v0 == a) = false := by rw [beq_eq_false_iff_ne]; exact h4
       have E : Hid (ed3 v2 v0 a b = false) := Lib.hid (ed3_no (by omega));subst h3;have g0 := kt.out.cell (i := 0) rfl;have g3 := kt.out.cell (i := 3) rfl;have g6 := kt.out.cell (i := 6) rfl;clear HZ
       go_wp2
       go_roundw
       case rel => exact ⟨3, by go_num, by omega, fun _ => A.out.1 (by omega), fun _ => A.out.2.1 (by omega), fun _ => E.out, B0.out⟩
       case measure => simp [intOf]
     ·have nh3 : (v2 == b) = false := by rw [beq_eq_false_iff_ne]; exact h3
      have E : Hid (ed3 v2 v0 a b = false) := Lib.hid (ed3_no (by omega));have g0 := kt.out.cell (i := 0) rfl;have g3 := kt.out.cell (i := 3) rfl;have g6 := kt.out.cell (i := 6) rfl;clear HZ
      go_wp2
      go_roundw
      case rel => exact ⟨3, by go_num, by omega, fun _ => A.out.1 (by omega), fun _ => A.out.2.1 (by omega), fun _ => E.out, B0.out⟩
      case measure => simp [intOf]
  ·have E : Hid (z = false) := Lib.hid (by rw [HZ.out]; unfold hasB; rw [A.out.1 (by omega), A.out.2.1 (by omega), A.out.2.2 (by omega)]; rfl)
   go_wp2
   go_ret
   exact ⟨by rw [E.out]; rfl, HB.out⟩
end Go.Proofs.YtcnbbanpnoigdaaGreat
namespace Go.Proofs.YtcnbbanpnoigdaaGreat
open Go.RowKit

theorem max_if (x y : Int) : (if y > x then y else x) = max x y := by
 rw [Int.max_def]
 split <;> split <;> omega
theorem min_if (x y : Int) : (if y < x then y else x) = min x y := by
 rw [Int.min_def]
 split <;> split <;> omega
@[go_sem high] theorem run_max_three {P : Program} (w : World) (ts : Array TypeId) (t : TypeId) (k k' k3 : IntKind) (x y z : Int) :
  (Builtin.max_ ts t #[.int k x, .int k' y, .int k3 z]).run P w = .ok (.int k (max (max x y) z)) w := by
 simp [Builtin.max_, Builtin.max2, max_if]
@[go_sem high] theorem run_min_three {P : Program} (w : World) (ts : Array TypeId) (t : TypeId) (k k' k3 : IntKind) (x y z : Int) :
  (Builtin.min_ ts t #[.int k x, .int k' y, .int k3 z]).run P w = .ok (.int k (min (min x y) z)) w := by
 simp [Builtin.min_, Builtin.min2, min_if]
end Go.Proofs.YtcnbbanpnoigdaaGreat
namespace Go.Proofs.YtcnbbanpnoigdaaGreat
open Go.RowKit

set_option maxRecDepth 100000 in
set_option maxHeartbeats 4000000 in
theorem place_any (p m : Int) (w : World) :
  Calls Tryz.prog 88 #[.int .i64 p, .int .i64 m] w fun e' w' => e' = .returned (.bool (plB p m)) ∧ Below w.heap.size w w' := by
 have HB := Lib.hid (Below.refl w.heap.size w)
 by_cases h : 0 ≤ p
 ·rw [plB_ge h]
  go_enter Tryz.func88, Tryz.ntmps88
  go_wp2
  go_ret
  exact ⟨rfl, HB.out⟩
 ·rw [plB_no h]
  go_enter Tryz.func88, Tryz.ntmps88
  go_wp2
  go_ret
  exact ⟨rfl, HB.out⟩
set_option maxRecDepth 100000 in
set_option maxHeartbeats 4000000 in
theorem placeN_any (p m : Int) (hm : 0 ≤ m) (w : World) :
  Calls Tryz.prog 89 #[.int .i64 p, .int .i64 m] w fun e' w' => e' = .returned (.bool (pnB p m)) ∧ Below w.heap.size w w' := by
 have HB := Lib.hid (Below.refl w.heap.size w);have C := Lib.hid (fun W => place_any p m W)
 by_cases h : p = -1
 ·rw [pnB_none h hm]
  have h2 : (p == -1) = true := by rw [beq_iff_eq]; exact h
  clear C h
  go_enter Tryz.func89, Tryz.ntmps89
  go_wp2
  go_ret
  exact ⟨rfl, HB.out⟩
 ·rw [pnB_other h]
  have h2 : (p == -1) = false := by rw [beq_eq_false_iff_ne]; exact h
  go_enter Tryz.func89, Tryz.ntmps89
  go_wp2_with fail
  (((with_reducible refine (C.out _).mono ?_); rintro e w1 ⟨rfl, hb1⟩); replace HB := Lib.hid (HB.out.trans (hb1.mono HB.out.size)); clear hb1)
  go_wp2
  go_ret
  exact ⟨rfl, HB.out⟩
set_option maxRecDepth 100000 in
set_option maxHeartbeats 4000000 in
theorem short_any (a1 a2 a3 a4 : Option Addr) (n1 n2 n3 n4 c1 c2 c3 c4 : Nat) (w : World) :
  Calls Tryz.prog 62 #[.agg #[.slice a1 n1 c1, .slice a2 n2 c2, .slice a3 n3 c3, .slice a4 n4 c4]] w fun e' w' => e' = .returned (.bool (shB n1 n2 n3 n4)) ∧ Below w.heap.size w w' := by
 have HB := Lib.hid (Below.refl w.heap.size w);unfold shB;have e : decide (n1 ≤ 2000 ∧ n2 ≤ 2000 ∧ n3 ≤ 2000) = decide (max (max (n1 : Int) n2) n3 ≤ 2000) := decide_eq_decide.2 (by omega);rw [e];clear e;obtain ⟨z, hz⟩ : ∃ z, z = max (max (n1 : Int) n2) n3 := ⟨_, rfl⟩;have Z := Lib.hid hz;rw [← hz]
 by_cases h : z ≤ 2000
 ·rw [decide_eq_true h, Bool.true_and]
  rw [hz] at h;clear hz;have E : Hid (decide (n4 ≤ 500) = decide ((n4 : Int) ≤ 500)) := Lib.hid (decide_eq_decide.2 (by omega));rw [E.out]
  go_enter Tryz.func62, Tryz.ntmps62
  go_upto_region 1 with fail
  have hbm := below_new1 w (.cells #[.slice a1 n1 c1, .slice a2 n2 c2, .slice a3 n3 c3, .slice a4 n4 c4] 26)
  have zm : (w.alloc (.cells #[.slice a1 n1 c1, .slice a2 n2 c2, .slice a3 n3 c3, .slice a4 n4 c4] 26)).heap.size = w.heap.size + 1 := by simp
  have HB := Lib.hid hbm;have km := Lib.hid (Lok.new w 26 #[.slice a1 n1 c1, .slice a2 n2 c2, .slice a3 n3 c3, .slice a4 n4 c4]);clear hbm;generalize w.alloc (.cells #[.slice a1 n1 c1, .slice a2 n2 c2, .slice a3 n3 c3, .slice a4 n4 c4] 26) = Vm at *;clear zm;have m0 := km.out.cell (i := 0) rfl;have m1 := km.out.cell (i := 1) rfl;have m2 := km.out.cell (i := 2) rfl;have m3 := km.out.cell (i := 3) rfl
  go_wp2
  go_ret
  exact ⟨by simp, HB.out⟩
 ·rw [decide_eq_false h, Bool.false_and]
  rw [hz] at h;clear hz
  go_enter Tryz.func62, Tryz.ntmps62
  go_upto_region 1 with fail
  have hbm := below_new1 w (.cells #[.slice a1 n1 c1, .slice a2 n2 c2, .slice a3 n3 c3, .slice a4 n4 c4] 26)
  have zm : (w.alloc (.cells #[.slice a1 n1 c1, .slice a2 n2 c2, .slice a3 n3 c3, .slice a4 n4 c4] 26)).heap.size = w.heap.size + 1 := by simp
  have HB := Lib.hid hbm;have km := Lib.hid (Lok.new w 26 #[.slice a1 n1 c1, .slice a2 n2 c2, .slice a3 n3 c3, .slice a4 n4 c4]);clear hbm;generalize w.alloc (.cells #[.slice a1 n1 c1, .slice a2 n2 c2, .slice a3 n3 c3, .slice a4 n4 c4] 26) = Vm at *;clear zm;have m0 := km.out.cell (i := 0) rfl;have m1 := km.out.cell (i := 1) rfl;have m2 := km.out.cell (i := 2) rfl;have m3 := km.out.cell (i := 3) rfl
  go_wp2
  go_ret
  exact ⟨rfl, HB.out⟩
def f9 (x0 x1 x2 x3 x4 x5 x6 x7 x8 : Int) : Nat → Int := fun j => if j = 0 then x0 else if j = 1 then x1 else if j = 2 then x2 else if j = 3 then x3 else if j = 4 then x4 else if j = 5 then x5 else if j = 6 then x6 else if j = 7 then x7 else x8
theorem trB_9 (n1 n2 n3 : Nat) (x0 x1 x2 x3 x4 x5 x6 x7 x8 : Int) : trB n1 n2 n3 (f9 x0 x1 x2 x3 x4 x5 x6 x7 x8) = (cnB n1 n2 n3 x0 x1 x2 x1 x2 && (cnB n1 n2 n3 x3 x4 x5 x1 x2 && cnB n1 n2 n3 x6 x7 x8 x1 x2)) := by
 show (((true && _) && _) && _) = _
 rw [Bool.true_and, Bool.and_assoc]
 rfl
set_option maxRecDepth 100000 in
set_option maxHeartbeats 16000000 in
theorem triangle_any (a1 a2 a3 a4 : Option Addr) (n1 n2 n3 n4 c1 c2 c3 c4 : Nat) (x0 x1 x2 x3 x4 x5 x6 x7 x8 : Int) (w : World) :
  Calls Tryz.prog 65 #[.agg #[.slice a1 n1 c1, .slice a2 n2 c2, .slice a3 n3 c3, .slice a4 n4 c4], .agg #[.int .i64 x0, .int .i64 x1, .int .i64 x2, .int .i64 x3, .int .i64 x4, .int .i64 x5, .int .i64 x6, .int .i64 x7, .int .i64 x8]] w fun e' w' => e' = .returned (.bool (trB n1 n2 n3 (f9 x0 x1 x2 x3 x4 x5 x6 x7 x8))) ∧ Below w.heap.size w w' := by
 have HB := Lib.hid (Below.refl w.heap.size w);have P1 := Lib.hid (fun p W => place_any p n1 W);have P2 := Lib.hid (fun p W => placeN_any p n2 (by omega) W);have P3 := Lib.hid (fun p W => placeN_any p n3 (by omega) W);rw [trB_9];obtain ⟨z, hz⟩ : ∃ z, z = (cnB n1 n2 n3 x0 x1 x2 x1 x2 && (cnB n1 n2 n3 x3 x4 x5 x1 x2 && cnB n1 n2 n3 x6 x7 x8 x1 x2)) := ⟨_, rfl⟩;rw [← hz];have HZ := Lib.hid hz;clear hz
 go_enter Tryz.func65, Tryz.ntmps65
 go_upto_region 1 with fail
 have hbm := below_new1 w (.cells #[.slice a1 n1 c1, .slice a2 n2 c2, .slice a3 n3 c3, .slice a4 n4 c4] 26)
 have zm : (w.alloc (.cells #[.slice a1 n1 c1, .slice a2 n2 c2, .slice a3 n3 c3, .slice a4 n4 c4] 26)).heap.size = w.heap.size + 1 := by simp
 have HB := Lib.hid hbm;have km := Lib.hid (Lok.new w 26 #[.slice a1 n1 c1, .slice a2 n2 c2, .slice a3 n3 c3, .slice a4 n4 c4]);clear hbm;generalize w.alloc (.cells #[.slice a1 n1 c1, .slice a2 n2 c2, .slice a3 n3 c3, .slice a4 n4 c4] 26) = Vm at *;have hbt := below_new1 Vm (.cells #[.int .i64 x0, .int .i64 x1, .int .i64 x2, .int .i64 x3, .int .i64 x4, .int .i64 x5, .int .i64 x6, .int .i64 x7, .int .i64 x8] 88);replace km := Lib.hid (km.out.keep hbt)
 have zt : (Vm.alloc (.cells #[.int .i64 x0, .int .i64 x1, .int .i64 x2, .int .i64 x3, .int .i64 x4, .int .i64 x5, .int .i64 x6, .int .i64 x7, .int .i64 x8] 88)).heap.size = Vm.heap.size + 1 := by simp
 replace HB := Lib.hid (HB.out.trans (hbt.mono HB.out.size));have kt := Lib.hid (Lok.new Vm 88 #[.int .i64 x0, .int .i64 x1, .int .i64 x2, .int .i64 x3, .int .i64 x4, .int .i64 x5, .int .i64 x6, .int .i64 x7, .int .i64 x8]);clear hbt;generalize Vm.alloc (.cells #[.int .i64 x0, .int .i64 x1, .int .i64 x2, .int .i64 x3, .int .i64 x4, .int .i64 x5, .int .i64 x6, .int .i64 x7, .int .i64 x8] 88) = Vt at *;rw [zm] at kt;clear zm zt;have t0 := kt.out.cell (i := 0) rfl;have t1 := kt.out.cell (i := 1) rfl;have t2 := kt.out.cell (i := 2) rfl;have t3 := kt.out.cell (i := 3) rfl;have t4 := kt.out.cell (i := 4) rfl;have t5 := kt.out.cell (i := 5) rfl;have t6 := kt.out.cell (i := 6) rfl;have t7 := kt.out.cell (i := 7) rfl;have t8 := kt.out.cell (i := 8) rfl
 go_wp2_with fail
 clear t0 t1 t2 t3 t4 t5 t6 t7 t8;have HB0 := HB;have km0 := km;have kt0 := kt;clear HB km kt
 go_loopw [8] (fun x wr => ∃ k : Nat, x = .int .i64 k ∧ k ≤ 3 ∧ (0 < k → cnB n1 n2 n3 x0 x1 x2 x1 x2 = true) ∧ (1 < k → cnB n1 n2 n3 x3 x4 x5 x1 x2 = true) ∧ (2 < k → cnB n1 n2 n3 x6 x7 x8 x1 x2 = true) ∧ Below Vt.heap.size Vt wr) (fun x _ => 3 - (intOf x).toNat)
 case atStart => exact ⟨0, rfl, by omega, fun h => absurd h (by omega), fun h => absurd h (by omega), fun h => absurd h (by omega), Below.refl _ _⟩
 case round =>
  obtain ⟨k, rfl, hk, A0, A1, A2, hB⟩ := hrel;have A := Lib.hid (And.intro A0 (And.intro A1 A2));clear A0 A1 A2;have HB := Lib.hid (HB0.out.trans (hB.mono HB0.out.size));have km := Lib.hid (km0.out.keep hB);have kt := Lib.hid (kt0.out.keep hB);have B0 := Lib.hid hB;clear hB
  rcases (show k = 0 ∨ k = 1 ∨ k = 2 ∨ k = 3 by omega) with rfl | rfl | rfl | rfl
  ·skip
   have ix : ∀ W, (Instr.index 88 (.agg #[.int .i64 x0, .int .i64 x1, .int .i64 x2, .int .i64 x3, .int .i64 x4, .int .i64 x5, .int .i64 x6, .int .i64 x7, .int .i64 x8]) (.int .i64 0)).run Tryz.prog W = .ok (.agg #[.int .i64 x0, .int .i64 x1, .int .i64 x2]) W := fun _ => by kernel_rfl
   go_upto_region 4 with fail
   have BW := Lib.hid (B0.out.trans ((below_new1 wr (.cells #[.int .i64 x0, .int .i64 x1, .int .i64 x2] 87)).mono B0.out.size));have hbp := below_new1 wr (.cells #[.int .i64 x0, .int .i64 x1, .int .i64 x2] 87);replace km := Lib.hid (km.out.keep hbp);replace kt := Lib.hid (kt.out.keep hbp)
   have zp : (wr.alloc (.cells #[.int .i64 x0, .int .i64 x1, .int .i64 x2] 87)).heap.size = wr.heap.size + 1 := by simp
   replace HB := Lib.hid (HB.out.trans (hbp.mono HB.out.size));have kp := Lib.hid (Lok.new wr 87 #[.int .i64 x0, .int .i64 x1, .int .i64 x2]);clear hbp;generalize wr.alloc (.cells #[.int .i64 x0, .int .i64 x1, .int .i64 x2] 87) = Vp at *;clear zp ix;have p0 := kp.out.cell (i := 0) rfl;have p1 := kp.out.cell (i := 1) rfl;have p2 := kp.out.cell (i := 2) rfl;have m0 := km.out.cell (i := 0) rfl;have m1 := km.out.cell (i := 1) rfl;have m2 := km.out.cell (i := 2) rfl;have m3 := km.out.cell (i := 3) rfl
   go_wp2_with fail
   ((with_reducible refine (P1.out _ _).mono ?_); rintro e w1 ⟨rfl, hb1⟩);replace HB := Lib.hid (HB.out.trans (hb1.mono HB.out.size));replace BW := Lib.hid (BW.out.trans (hb1.mono BW.out.size));replace km := Lib.hid (km.out.keep hb1);replace kt := Lib.hid (kt.out.keep hb1);replace kp := Lib.hid (kp.out.keep hb1);clear hb1;clear p0 p1 p2 m0 m1 m2 m3
   cases q1 : plB x0 n1 with
   | false =>
    have E : Hid (z = false) := by
     refine Lib.hid ?_
     rw [HZ.out]
     have q : cnB n1 n2 n3 x0 x1 x2 x1 x2 = false := by
       cases e : cnB n1 n2 n3 x0 x1 x2 x1 x2 with
       | false => rfl
       | true =>
        have y := plB_iff.2 (cnB_iff.1 e).1
        rw [q1] at y; cases y
     rw [q]; simp
    clear HZ A
    go_wp2
    go_ret
    exact ⟨by rw [E.out]; rfl, HB.out⟩
   | true =>
    have p0 := kp.out.cell (i := 0) rfl;have p1 := kp.out.cell (i := 1) rfl;have p2 := kp.out.cell (i := 2) rfl;have m0 := km.out.cell (i := 0) rfl;have m1 := km.out.cell (i := 1) rfl;have m2 := km.out.cell (i := 2) rfl;have m3 := km.out.cell (i := 3) rfl
    go_wp2_with fail
    ((with_reducible refine (P2.out _ _).mono ?_); rintro e w2 ⟨rfl, hb2⟩);replace HB := Lib.hid (HB.out.trans (hb2.mono HB.out.size));replace BW := Lib.hid (BW.out.trans (hb2.mono BW.out.size));replace km := Lib.hid (km.out.keep hb2);replace kt := Lib.hid (kt.out.keep hb2);replace kp := Lib.hid (kp.out.keep hb2);clear hb2;clear p0 p1 p2 m0 m1 m2 m3
    cases q2 : pnB x1 n2 with
    | false =>
     have E : Hid (z = false) := by
      refine Lib.hid ?_
      rw [HZ.out]
      have q : cnB n1 n2 n3 x0 x1 x2 x1 x2 = false := by
        cases e : cnB n1 n2 n3 x0 x1 x2 x1 x2 with
        | false => rfl
        | true =>
         have y := pnB_iff.2 (cnB_iff.1 e).2.1
         rw [q2] at y; cases y
      rw [q]; simp
     clear HZ A
     go_wp2
     go_ret
     exact ⟨by rw [E.out]; rfl, HB.out⟩
    | true =>
     have p0 := kp.out.cell (i := 0) rfl;have p1 := kp.out.cell (i := 1) rfl;have p2 := kp.out.cell (i := 2) rfl;have m0 := km.out.cell (i := 0) rfl;have m1 := km.out.cell (i := 1) rfl;have m2 := km.out.cell (i := 2) rfl;have m3 := km.out.cell (i := 3) rfl
     go_wp2_with fail
     ((with_reducible refine (P3.out _ _).mono ?_); rintro e w3 ⟨rfl, hb3⟩);replace HB := Lib.hid (HB.out.trans (hb3.mono HB.out.size));replace BW := Lib.hid (BW.out.trans (hb3.mono BW.out.size));replace km := Lib.hid (km.out.keep hb3);replace kt := Lib.hid (kt.out.keep hb3);replace kp := Lib.hid (kp.out.keep hb3);clear hb3;clear p0 p1 p2 m0 m1 m2 m3
     cases q3 : pnB x2 n3 with
     | false =>
      have E : Hid (z = false) := by
       refine Lib.hid ?_
       rw [HZ.out]
       have q : cnB n1 n2 n3 x0 x1 x2 x1 x2 = false := by
         cases e : cnB n1 n2 n3 x0 x1 x2 x1 x2 with
         | false => rfl
         | true =>
          have y := pnB_iff.2 (cnB_iff.1 e).2.2.1
          rw [q3] at y; cases y
       rw [q]; simp
      clear HZ A
      go_wp2
      go_ret
      exact ⟨by rw [E.out]; rfl, HB.out⟩
     | true =>
      have p0 := kp.out.cell (i := 0) rfl;have p1 := kp.out.cell (i := 1) rfl;have p2 := kp.out.cell (i := 2) rfl;have m0 := km.out.cell (i := 0) rfl;have m1 := km.out.cell (i := 1) rfl;have m2 := km.out.cell (i := 2) rfl;have m3 := km.out.cell (i := 3) rfl;have t1 := kt.out.cell (i := 1) rfl;have t2 := kt.out.cell (i := 2) rfl;have q4 : ((x1 == -1) == (x1 == -1)) = true := beq_self_eq_true _;have q5 : ((x2 == -1) == (x2 == -1)) = true := beq_self_eq_true _;have Y : Hid (cnB n1 n2 n3 x0 x1 x2 x1 x2 = true) := Lib.hid (by unfold cnB; rw [q1, q2, q3, q4, q5]; rfl);clear q1 q2 q3 q4 q5
      go_wp2
      go_roundw
      case rel => exact ⟨1, by go_num, by omega, fun _ => Y.out, fun h => absurd h (by omega), fun h => absurd h (by omega), BW.out⟩
      case measure => simp [intOf]
  ·skip
   have ix : ∀ W, (Instr.index 88 (.agg #[.int .i64 x0, .int .i64 x1, .int .i64 x2, .int .i64 x3, .int .i64 x4, .int .i64 x5, .int .i64 x6, .int .i64 x7, .int .i64 x8]) (.int .i64 1)).run Tryz.prog W = .ok (.agg #[.int .i64 x3, .int .i64 x4, .int .i64 x5]) W := fun _ => by kernel_rfl
   go_upto_region 4 with fail
   have BW := Lib.hid (B0.out.trans ((below_new1 wr (.cells #[.int .i64 x3, .int .i64 x4, .int .i64 x5] 87)).mono B0.out.size));have hbp := below_new1 wr (.cells #[.int .i64 x3, .int .i64 x4, .int .i64 x5] 87);replace km := Lib.hid (km.out.keep hbp);replace kt := Lib.hid (kt.out.keep hbp)
   have zp : (wr.alloc (.cells #[.int .i64 x3, .int .i64 x4, .int .i64 x5] 87)).heap.size = wr.heap.size + 1 := by simp
   replace HB := Lib.hid (HB.out.trans (hbp.mono HB.out.size));have kp := Lib.hid (Lok.new wr 87 #[.int .i64 x3, .int .i64 x4, .int .i64 x5]);clear hbp;generalize wr.alloc (.cells #[.int .i64 x3, .int .i64 x4, .int .i64 x5] 87) = Vp at *;clear zp ix;have p0 := kp.out.cell (i := 0) rfl;have p1 := kp.out.cell (i := 1) rfl;have p2 := kp.out.cell (i := 2) rfl;have m0 := km.out.cell (i := 0) rfl;have m1 := km.out.cell (i := 1) rfl;have m2 := km.out.cell (i := 2) rfl;have m3 := km.out.cell (i := 3) rfl
   go_wp2_with fail
   ((with_reducible refine (P1.out _ _).mono ?_); rintro e w1 ⟨rfl, hb1⟩);replace HB := Lib.hid (HB.out.trans (hb1.mono HB.out.size));replace BW := Lib.hid (BW.out.trans (hb1.mono BW.out.size));replace km := Lib.hid (km.out.keep hb1);replace kt := Lib.hid (kt.out.keep hb1);replace kp := Lib.hid (kp.out.keep hb1);clear hb1;clear p0 p1 p2 m0 m1 m2 m3
   cases q1 : plB x3 n1 with
   | false =>
    have E : Hid (z = false) := by
     refine Lib.hid ?_
     rw [HZ.out]
     have q : cnB n1 n2 n3 x3 x4 x5 x1 x2 = false := by
       cases e : cnB n1 n2 n3 x3 x4 x5 x1 x2 with
       | false => rfl
       | true =>
        have y := plB_iff.2 (cnB_iff.1 e).1
        rw [q1] at y; cases y
     rw [q]; simp
    clear HZ A
    go_wp2
    go_ret
    exact ⟨by rw [E.out]; rfl, HB.out⟩
   | true =>
    have p0 := kp.out.cell (i := 0) rfl;have p1 := kp.out.cell (i := 1) rfl;have p2 := kp.out.cell (i := 2) rfl;have m0 := km.out.cell (i := 0) rfl;have m1 := km.out.cell (i := 1) rfl;have m2 := km.out.cell (i := 2) rfl;have m3 := km.out.cell (i := 3) rfl
    go_wp2_with fail
    ((with_reducible refine (P2.out _ _).mono ?_); rintro e w2 ⟨rfl, hb2⟩);replace HB := Lib.hid (HB.out.trans (hb2.mono HB.out.size));replace BW := Lib.hid (BW.out.trans (hb2.mono BW.out.size));replace km := Lib.hid (km.out.keep hb2);replace kt := Lib.hid (kt.out.keep hb2);replace kp := Lib.hid (kp.out.keep hb2);clear hb2;clear p0 p1 p2 m0 m1 m2 m3
    cases q2 : pnB x4 n2 with
    | false =>
     have E : Hid (z = false) := by
      refine Lib.hid ?_
      rw [HZ.out]
      have q : cnB n1 n2 n3 x3 x4 x5 x1 x2 = false := by
        cases e : cnB n1 n2 n3 x3 x4 x5 x1 x2 with
        | false => rfl
        | true =>
         have y := pnB_iff.2 (cnB_iff.1 e).2.1
         rw [q2] at y; cases y
      rw [q]; simp
     clear HZ A
     go_wp2
     go_ret
     exact ⟨by rw [E.out]; rfl, HB.out⟩
    | true =>
     have p0 := kp.out.cell (i := 0) rfl;have p1 := kp.out.cell (i := 1) rfl;have p2 := kp.out.cell (i := 2) rfl;have m0 := km.out.cell (i := 0) rfl;have m1 := km.out.cell (i := 1) rfl;have m2 := km.out.cell (i := 2) rfl;have m3 := km.out.cell (i := 3) rfl
     go_wp2_with fail
     ((with_reducible refine (P3.out _ _).mono ?_); rintro e w3 ⟨rfl, hb3⟩);replace HB := Lib.hid (HB.out.trans (hb3.mono HB.out.size));replace BW := Lib.hid (BW.out.trans (hb3.mono BW.out.size));replace km := Lib.hid (km.out.keep hb3);replace kt := Lib.hid (kt.out.keep hb3);replace kp := Lib.hid (kp.out.keep hb3);clear hb3;clear p0 p1 p2 m0 m1 m2 m3
     cases q3 : pnB x5 n3 with
     | false =>
      have E : Hid (z = false) := by
       refine Lib.hid ?_
       rw [HZ.out]
       have q : cnB n1 n2 n3 x3 x4 x5 x1 x2 = false := by
         cases e : cnB n1 n2 n3 x3 x4 x5 x1 x2 with
         | false => rfl
         | true =>
          have y := pnB_iff.2 (cnB_iff.1 e).2.2.1
          rw [q3] at y; cases y
       rw [q]; simp
      clear HZ A
      go_wp2
      go_ret
      exact ⟨by rw [E.out]; rfl, HB.out⟩
     | true =>
      have p0 := kp.out.cell (i := 0) rfl;have p1 := kp.out.cell (i := 1) rfl;have p2 := kp.out.cell (i := 2) rfl;have m0 := km.out.cell (i := 0) rfl;have m1 := km.out.cell (i := 1) rfl;have m2 := km.out.cell (i := 2) rfl;have m3 := km.out.cell (i := 3) rfl;have t1 := kt.out.cell (i := 1) rfl;have t2 := kt.out.cell (i := 2) rfl
      cases q4 : ((x4 == -1) == (x1 == -1)) with
      | false =>
       have d4 : ((x4 == -1) != (x1 == -1)) = true := by rw [bne, q4]; rfl
       have n4 : ¬ ((x4 == -1) = (x1 == -1)) := fun h => by rw [h, beq_self_eq_true] at q4; cases q4
       have E : Hid (z = false) := by
        refine Lib.hid ?_
        rw [HZ.out]
        have q : cnB n1 n2 n3 x3 x4 x5 x1 x2 = false := by
          cases e : cnB n1 n2 n3 x3 x4 x5 x1 x2 with
          | false => rfl
          | true =>
           have y := (cnB_iff.1 e).2.2.2.1;have y2 : ((x4 == -1) == (x1 == -1)) = true := beq_kind.2 y
           rw [q4] at y2; cases y2
        rw [q]; simp
       clear HZ A
       go_wp2
       go_ret
       exact ⟨by rw [E.out]; rfl, HB.out⟩
      | true =>
       have e4 : (x4 == -1) = (x1 == -1) := beq_iff_eq.1 q4
       cases q5 : ((x5 == -1) == (x2 == -1)) with
       | false =>
        have d5 : ((x5 == -1) != (x2 == -1)) = true := by rw [bne, q5]; rfl
        have n5 : ¬ ((x5 == -1) = (x2 == -1)) := fun h => by rw [h, beq_self_eq_true] at q5; cases q5
        have E : Hid (z = false) := by
         refine Lib.hid ?_
         rw [HZ.out]
         have q : cnB n1 n2 n3 x3 x4 x5 x1 x2 = false := by
           cases e : cnB n1 n2 n3 x3 x4 x5 x1 x2 with
           | false => rfl
           | true =>
            have y := (cnB_iff.1 e).2.2.2.2;have y2 : ((x5 == -1) == (x2 == -1)) = true := beq_kind.2 y
            rw [q5] at y2; cases y2
         rw [q]; simp
        clear HZ A
        go_wp2
        go_ret
        exact ⟨by rw [E.out]; rfl, HB.out⟩
       | true =>
        have e5 : (x5 == -1) = (x2 == -1) := beq_iff_eq.1 q5;have Y : Hid (cnB n1 n2 n3 x3 x4 x5 x1 x2 = true) := Lib.hid (by unfold cnB; rw [q1, q2, q3, q4, q5]; rfl);clear q1 q2 q3 q4 q5
        go_wp2
        go_roundw
        case rel => exact ⟨2, by go_num, by omega, fun h => A.out.1 (by omega), fun _ => Y.out, fun h => absurd h (by omega), BW.out⟩
        case measure => simp [intOf]
  ·skip
   have ix : ∀ W, (Instr.index 88 (.agg #[.int .i64 x0, .int .i64 x1, .int .i64 x2, .int .i64 x3, .int .i64 x4, .int .i64 x5, .int .i64 x6, .int .i64 x7, .int .i64 x8]) (.int .i64 2)).run Tryz.prog W = .ok (.agg #[.int .i64 x6, .int .i64 x7, .int .i64 x8]) W := fun _ => by kernel_rfl
   go_upto_region 4 with fail
   have BW := Lib.hid (B0.out.trans ((below_new1 wr (.cells #[.int .i64 x6, .int .i64 x7, .int .i64 x8] 87)).mono B0.out.size));have hbp := below_new1 wr (.cells #[.int .i64 x6, .int .i64 x7, .int .i64 x8] 87);replace km := Lib.hid (km.out.keep hbp);replace kt := Lib.hid (kt.out.keep hbp)
   have zp : (wr.alloc (.cells #[.int .i64 x6, .int .i64 x7, .int .i64 x8] 87)).heap.size = wr.heap.size + 1 := by simp
   replace HB := Lib.hid (HB.out.trans (hbp.mono HB.out.size));have kp := Lib.hid (Lok.new wr 87 #[.int .i64 x6, .int .i64 x7, .int .i64 x8]);clear hbp;generalize wr.alloc (.cells #[.int .i64 x6, .int .i64 x7, .int .i64 x8] 87) = Vp at *;clear zp ix;have p0 := kp.out.cell (i := 0) rfl;have p1 := kp.out.cell (i := 1) rfl;have p2 := kp.out.cell (i := 2) rfl;have m0 := km.out.cell (i := 0) rfl;have m1 := km.out.cell (i := 1) rfl;have m2 := km.out.cell (i := 2) rfl;have m3 := km.out.cell (i := 3) rfl
   go_wp2_with fail
   ((with_reducible refine (P1.out _ _).mono ?_); rintro e w1 ⟨rfl, hb1⟩);replace HB := Lib.hid (HB.out.trans (hb1.mono HB.out.size));replace BW := Lib.hid (BW.out.trans (hb1.mono BW.out.size));replace km := Lib.hid (km.out.keep hb1);replace kt := Lib.hid (kt.out.keep hb1);replace kp := Lib.hid (kp.out.keep hb1);clear hb1;clear p0 p1 p2 m0 m1 m2 m3
   cases q1 : plB x6 n1 with
   | false =>
    have E : Hid (z = false) := by
     refine Lib.hid ?_
     rw [HZ.out]
     have q : cnB n1 n2 n3 x6 x7 x8 x1 x2 = false := by
       cases e : cnB n1 n2 n3 x6 x7 x8 x1 x2 with
       | false => rfl
       | true =>
        have y := plB_iff.2 (cnB_iff.1 e).1
        rw [q1] at y; cases y
     rw [q]; simp
    clear HZ A
    go_wp2
    go_ret
    exact ⟨by rw [E.out]; rfl, HB.out⟩
   | true =>
    have p0 := kp.out.cell (i := 0) rfl;have p1 := kp.out.cell (i := 1) rfl;have p2 := kp.out.cell (i := 2) rfl;have m0 := km.out.cell (i := 0) rfl;have m1 := km.out.cell (i := 1) rfl;have m2 := km.out.cell (i := 2) rfl;have m3 := km.out.cell (i := 3) rfl
    go_wp2_with fail
    ((with_reducible refine (P2.out _ _).mono ?_); rintro e w2 ⟨rfl, hb2⟩);replace HB := Lib.hid (HB.out.trans (hb2.mono HB.out.size));replace BW := Lib.hid (BW.out.trans (hb2.mono BW.out.size));replace km := Lib.hid (km.out.keep hb2);replace kt := Lib.hid (kt.out.keep hb2);replace kp := Lib.hid (kp.out.keep hb2);clear hb2;clear p0 p1 p2 m0 m1 m2 m3
    cases q2 : pnB x7 n2 with
    | false =>
     have E : Hid (z = false) := by
      refine Lib.hid ?_
      rw [HZ.out]
      have q : cnB n1 n2 n3 x6 x7 x8 x1 x2 = false := by
        cases e : cnB n1 n2 n3 x6 x7 x8 x1 x2 with
        | false => rfl
        | true =>
         have y := pnB_iff.2 (cnB_iff.1 e).2.1
         rw [q2] at y; cases y
      rw [q]; simp
     clear HZ A
     go_wp2
     go_ret
     exact ⟨by rw [E.out]; rfl, HB.out⟩
    | true =>
     have p0 := kp.out.cell (i := 0) rfl;have p1 := kp.out.cell (i := 1) rfl;have p2 := kp.out.cell (i := 2) rfl;have m0 := km.out.cell (i := 0) rfl;have m1 := km.out.cell (i := 1) rfl;have m2 := km.out.cell (i := 2) rfl;have m3 := km.out.cell (i := 3) rfl
     go_wp2_with fail
     ((with_reducible refine (P3.out _ _).mono ?_); rintro e w3 ⟨rfl, hb3⟩);replace HB := Lib.hid (HB.out.trans (hb3.mono HB.out.size));replace BW := Lib.hid (BW.out.trans (hb3.mono BW.out.size));replace km := Lib.hid (km.out.keep hb3);replace kt := Lib.hid (kt.out.keep hb3);replace kp := Lib.hid (kp.out.keep hb3);clear hb3;clear p0 p1 p2 m0 m1 m2 m3
     cases q3 : pnB x8 n3 with
     | false =>
      have E : Hid (z = false) := by
       refine Lib.hid ?_
       rw [HZ.out]
       have q : cnB n1 n2 n3 x6 x7 x8 x1 x2 = false := by
         cases e : cnB n1 n2 n3 x6 x7 x8 x1 x2 with
         | false => rfl
         | true =>
          have y := pnB_iff.2 (cnB_iff.1 e).2.2.1
          rw [q3] at y; cases y
       rw [q]; simp
      clear HZ A
      go_wp2
      go_ret
      exact ⟨by rw [E.out]; rfl, HB.out⟩
     | true =>
      have p0 := kp.out.cell (i := 0) rfl;have p1 := kp.out.cell (i := 1) rfl;have p2 := kp.out.cell (i := 2) rfl;have m0 := km.out.cell (i := 0) rfl;have m1 := km.out.cell (i := 1) rfl;have m2 := km.out.cell (i := 2) rfl;have m3 := km.out.cell (i := 3) rfl;have t1 := kt.out.cell (i := 1) rfl;have t2 := kt.out.cell (i := 2) rfl
      cases q4 : ((x7 == -1) == (x1 == -1)) with
      | false =>
       have d4 : ((x7 == -1) != (x1 == -1)) = true := by rw [bne, q4]; rfl
       have n4 : ¬ ((x7 == -1) = (x1 == -1)) := fun h => by rw [h, beq_self_eq_true] at q4; cases q4
       have E : Hid (z = false) := by
        refine Lib.hid ?_
        rw [HZ.out]
        have q : cnB n1 n2 n3 x6 x7 x8 x1 x2 = false := by
          cases e : cnB n1 n2 n3 x6 x7 x8 x1 x2 with
          | false => rfl
          | true =>
           have y := (cnB_iff.1 e).2.2.2.1;have y2 : ((x7 == -1) == (x1 == -1)) = true := beq_kind.2 y
           rw [q4] at y2; cases y2
        rw [q]; simp
       clear HZ A
       go_wp2
       go_ret
       exact ⟨by rw [E.out]; rfl, HB.out⟩
      | true =>
       have e4 : (x7 == -1) = (x1 == -1) := beq_iff_eq.1 q4
       cases q5 : ((x8 == -1) == (x2 == -1)) with
       | false =>
        have d5 : ((x8 == -1) != (x2 == -1)) = true := by rw [bne, q5]; rfl
        have n5 : ¬ ((x8 == -1) = (x2 == -1)) := fun h => by rw [h, beq_self_eq_true] at q5; cases q5
        have E : Hid (z = false) := by
         refine Lib.hid ?_
         rw [HZ.out]
         have q : cnB n1 n2 n3 x6 x7 x8 x1 x2 = false := by
           cases e : cnB n1 n2 n3 x6 x7 x8 x1 x2 with
           | false => rfl
           | true =>
            have y := (cnB_iff.1 e).2.2.2.2;have y2 : ((x8 == -1) == (x2 == -1)) = true := beq_kind.2 y
            rw [q5] at y2; cases y2
         rw [q]; simp
        clear HZ A
        go_wp2
        go_ret
        exact ⟨by rw [E.out]; rfl, HB.out⟩
       | true =>
        have e5 : (x8 == -1) = (x2 == -1) := beq_iff_eq.1 q5;have Y : Hid (cnB n1 n2 n3 x6 x7 x8 x1 x2 = true) := Lib.hid (by unfold cnB; rw [q1, q2, q3, q4, q5]; rfl);clear q1 q2 q3 q4 q5
        go_wp2
        go_roundw
        case rel => exact ⟨3, by go_num, by omega, fun h => A.out.1 (by omega), fun h => A.out.2.1 (by omega), fun _ => Y.out, BW.out⟩
        case measure => simp [intOf]
  ·have E : Hid (z = true) := Lib.hid (by rw [HZ.out, A.out.1 (by omega), A.out.2.1 (by omega), A.out.2.2 (by omega)]; rfl)
   go_wp2
   go_ret
   exact ⟨by rw [E.out]; rfl, HB.out⟩
end Go.Proofs.YtcnbbanpnoigdaaGreat
namespace Go.Proofs.YtcnbbanpnoigdaaGreat
open Go.RowKit

def MsW (W : World) (pa1 pa2 pa3 pa4 : Option Addr) (n1 n2 n3 n4 : Nat) (FV FT FN FC : Nat → Nat → Int) : Prop :=
 (RowK W pa1 n1 3 FV ∧ RowK W pa2 n2 2 FT ∧ RowK W pa3 n3 3 FN ∧ RowK W pa4 n4 9 FC) ∧ n1 ≤ 9223372036854775806 ∧ n2 ≤ 9223372036854775806 ∧ n3 ≤ 9223372036854775806 ∧ n4 ≤ 9223372036854775806
theorem MsW.keep {W W' : World} {pa1 pa2 pa3 pa4 : Option Addr} {n1 n2 n3 n4 : Nat} {FV FT FN FC : Nat → Nat → Int} (h : MsW W pa1 pa2 pa3 pa4 n1 n2 n3 n4 FV FT FN FC) (hb : Below W.heap.size W W') : MsW W' pa1 pa2 pa3 pa4 n1 n2 n3 n4 FV FT FN FC :=
 ⟨⟨h.1.1.keep hb, h.1.2.1.keep hb, h.1.2.2.1.keep hb, h.1.2.2.2.keep hb⟩, h.2⟩
theorem trB_row (n1 n2 n3 : Nat) (F : Nat → Int) : trB n1 n2 n3 (f9 (F 0) (F 1) (F 2) (F 3) (F 4) (F 5) (F 6) (F 7) (F 8)) = trB n1 n2 n3 F := rfl
set_option maxRecDepth 100000 in
set_option maxHeartbeats 16000000 in
theorem mis_any (pa1 pa2 pa3 pa4 : Option Addr) (n1 n2 n3 n4 c1 c2 c3 c4 : Nat) (FV FT FN FC : Nat → Nat → Int) (w : World) (hm : MsW w pa1 pa2 pa3 pa4 n1 n2 n3 n4 FV FT FN FC) :
  Calls Tryz.prog 44 #[.agg #[.slice pa1 n1 c1, .slice pa2 n2 c2, .slice pa3 n3 c3, .slice pa4 n4 c4]] w fun e' w' => e' = .returned (.bool (msB n1 n2 n3 n4 FV FT FN FC)) ∧ Below w.heap.size w w' := by
 have HB := Lib.hid (Below.refl w.heap.size w);have M := Lib.hid hm;clear hm;have S := Lib.hid (fun W => short_any pa1 pa2 pa3 pa4 n1 n2 n3 n4 c1 c2 c3 c4 W);have V := Lib.hid (fun W (h : Below w.heap.size w W) => is3_any pa1 n1 c1 FV W (M.out.keep h).1.1 (by have := M.out.2.1; omega));have T := Lib.hid (fun W (h : Below w.heap.size w W) => is2_any pa2 n2 c2 FT W (M.out.keep h).1.2.1 (by have := M.out.2.2.1; omega));have N := Lib.hid (fun W (h : Below w.heap.size w W) => is3_any pa3 n3 c3 FN W (M.out.keep h).1.2.2.1 (by have := M.out.2.2.2.1; omega));have TR := Lib.hid (fun x0 x1 x2 x3 x4 x5 x6 x7 x8 W => triangle_any pa1 pa2 pa3 pa4 n1 n2 n3 n4 c1 c2 c3 c4 x0 x1 x2 x3 x4 x5 x6 x7 x8 W);unfold msB
 cases hs : shB n1 n2 n3 n4 with
 | false =>
  rw [Bool.false_and];rw [hs] at S;clear hs
  go_enter Tryz.func44, Tryz.ntmps44
  go_upto_region 1 with fail
  have hbm := below_new1 w (.cells #[.slice pa1 n1 c1, .slice pa2 n2 c2, .slice pa3 n3 c3, .slice pa4 n4 c4] 26)
  have zm : (w.alloc (.cells #[.slice pa1 n1 c1, .slice pa2 n2 c2, .slice pa3 n3 c3, .slice pa4 n4 c4] 26)).heap.size = w.heap.size + 1 := by simp
  have HB := Lib.hid hbm;have km := Lib.hid (Lok.new w 26 #[.slice pa1 n1 c1, .slice pa2 n2 c2, .slice pa3 n3 c3, .slice pa4 n4 c4]);clear hbm;generalize w.alloc (.cells #[.slice pa1 n1 c1, .slice pa2 n2 c2, .slice pa3 n3 c3, .slice pa4 n4 c4] 26) = Vm at *;clear zm;have m0 := km.out.cell (i := 0) rfl;have m1 := km.out.cell (i := 1) rfl;have m2 := km.out.cell (i := 2) rfl;have m3 := km.out.cell (i := 3) rfl
  go_wp2_with fail
  clear m0 m1 m2 m3
  (((with_reducible refine (S.out _).mono ?_); rintro e w1 ⟨rfl, hb1⟩); replace HB := Lib.hid (HB.out.trans (hb1.mono HB.out.size)); replace km := Lib.hid (km.out.keep hb1); clear hb1)
  clear km
  go_wp2
  go_ret
  exact ⟨rfl, HB.out⟩
 | true =>
  rw [Bool.true_and];rw [hs] at S
  cases h1 : a3 FV n1 with
  | false =>
   rw [Bool.false_and];rw [h1] at V
   go_enter Tryz.func44, Tryz.ntmps44
   go_upto_region 1 with fail
   have hbm := below_new1 w (.cells #[.slice pa1 n1 c1, .slice pa2 n2 c2, .slice pa3 n3 c3, .slice pa4 n4 c4] 26)
   have zm : (w.alloc (.cells #[.slice pa1 n1 c1, .slice pa2 n2 c2, .slice pa3 n3 c3, .slice pa4 n4 c4] 26)).heap.size = w.heap.size + 1 := by simp
   have HB := Lib.hid hbm;have km := Lib.hid (Lok.new w 26 #[.slice pa1 n1 c1, .slice pa2 n2 c2, .slice pa3 n3 c3, .slice pa4 n4 c4]);clear hbm;generalize w.alloc (.cells #[.slice pa1 n1 c1, .slice pa2 n2 c2, .slice pa3 n3 c3, .slice pa4 n4 c4] 26) = Vm at *;clear zm;have m0 := km.out.cell (i := 0) rfl;have m1 := km.out.cell (i := 1) rfl;have m2 := km.out.cell (i := 2) rfl;have m3 := km.out.cell (i := 3) rfl
   go_wp2_with fail
   clear m0 m1 m2 m3
   (((with_reducible refine (S.out _).mono ?_); rintro e w1 ⟨rfl, hb1⟩); replace HB := Lib.hid (HB.out.trans (hb1.mono HB.out.size)); replace km := Lib.hid (km.out.keep hb1); clear hb1)
   have m0 := km.out.cell (i := 0) rfl;have m1 := km.out.cell (i := 1) rfl;have m2 := km.out.cell (i := 2) rfl;have m3 := km.out.cell (i := 3) rfl
   go_wp2_with fail
   clear m0 m1 m2 m3
   (((with_reducible refine (V.out _ HB.out).mono ?_); rintro e w2 ⟨rfl, hb2⟩); replace HB := Lib.hid (HB.out.trans (hb2.mono HB.out.size)); replace km := Lib.hid (km.out.keep hb2); clear hb2)
   clear km
   go_wp2
   go_ret
   exact ⟨rfl, HB.out⟩
  | true =>
   rw [Bool.true_and];rw [h1] at V
   cases h2 : a2 FT n2 with
   | false =>
    rw [Bool.false_and];rw [h2] at T
    go_enter Tryz.func44, Tryz.ntmps44
    go_upto_region 1 with fail
    have hbm := below_new1 w (.cells #[.slice pa1 n1 c1, .slice pa2 n2 c2, .slice pa3 n3 c3, .slice pa4 n4 c4] 26)
    have zm : (w.alloc (.cells #[.slice pa1 n1 c1, .slice pa2 n2 c2, .slice pa3 n3 c3, .slice pa4 n4 c4] 26)).heap.size = w.heap.size + 1 := by simp
    have HB := Lib.hid hbm;have km := Lib.hid (Lok.new w 26 #[.slice pa1 n1 c1, .slice pa2 n2 c2, .slice pa3 n3 c3, .slice pa4 n4 c4]);clear hbm;generalize w.alloc (.cells #[.slice pa1 n1 c1, .slice pa2 n2 c2, .slice pa3 n3 c3, .slice pa4 n4 c4] 26) = Vm at *;clear zm;have m0 := km.out.cell (i := 0) rfl;have m1 := km.out.cell (i := 1) rfl;have m2 := km.out.cell (i := 2) rfl;have m3 := km.out.cell (i := 3) rfl
    go_wp2_with fail
    clear m0 m1 m2 m3
    (((with_reducible refine (S.out _).mono ?_); rintro e w1 ⟨rfl, hb1⟩); replace HB := Lib.hid (HB.out.trans (hb1.mono HB.out.size)); replace km := Lib.hid (km.out.keep hb1); clear hb1)
    have m0 := km.out.cell (i := 0) rfl;have m1 := km.out.cell (i := 1) rfl;have m2 := km.out.cell (i := 2) rfl;have m3 := km.out.cell (i := 3) rfl
    go_wp2_with fail
    clear m0 m1 m2 m3
    (((with_reducible refine (V.out _ HB.out).mono ?_); rintro e w2 ⟨rfl, hb2⟩); replace HB := Lib.hid (HB.out.trans (hb2.mono HB.out.size)); replace km := Lib.hid (km.out.keep hb2); clear hb2)
    have m0 := km.out.cell (i := 0) rfl;have m1 := km.out.cell (i := 1) rfl;have m2 := km.out.cell (i := 2) rfl;have m3 := km.out.cell (i := 3) rfl
    go_wp2_with fail
    clear m0 m1 m2 m3
    (((with_reducible refine (T.out _ HB.out).mono ?_); rintro e w3 ⟨rfl, hb3⟩); replace HB := Lib.hid (HB.out.trans (hb3.mono HB.out.size)); replace km := Lib.hid (km.out.keep hb3); clear hb3)
    clear km
    go_wp2
    go_ret
    exact ⟨rfl, HB.out⟩
   | true =>
    rw [Bool.true_and];rw [h2] at T
    cases h3 : a3 FN n3 with
    | false =>
     rw [Bool.false_and];rw [h3] at N
     go_enter Tryz.func44, Tryz.ntmps44
     go_upto_region 1 with fail
     have hbm := below_new1 w (.cells #[.slice pa1 n1 c1, .slice pa2 n2 c2, .slice pa3 n3 c3, .slice pa4 n4 c4] 26)
     have zm : (w.alloc (.cells #[.slice pa1 n1 c1, .slice pa2 n2 c2, .slice pa3 n3 c3, .slice pa4 n4 c4] 26)).heap.size = w.heap.size + 1 := by simp
     have HB := Lib.hid hbm;have km := Lib.hid (Lok.new w 26 #[.slice pa1 n1 c1, .slice pa2 n2 c2, .slice pa3 n3 c3, .slice pa4 n4 c4]);clear hbm;generalize w.alloc (.cells #[.slice pa1 n1 c1, .slice pa2 n2 c2, .slice pa3 n3 c3, .slice pa4 n4 c4] 26) = Vm at *;clear zm;have m0 := km.out.cell (i := 0) rfl;have m1 := km.out.cell (i := 1) rfl;have m2 := km.out.cell (i := 2) rfl;have m3 := km.out.cell (i := 3) rfl
     go_wp2_with fail
     clear m0 m1 m2 m3
     (((with_reducible refine (S.out _).mono ?_); rintro e w1 ⟨rfl, hb1⟩); replace HB := Lib.hid (HB.out.trans (hb1.mono HB.out.size)); replace km := Lib.hid (km.out.keep hb1); clear hb1)
     have m0 := km.out.cell (i := 0) rfl;have m1 := km.out.cell (i := 1) rfl;have m2 := km.out.cell (i := 2) rfl;have m3 := km.out.cell (i := 3) rfl
     go_wp2_with fail
     clear m0 m1 m2 m3
     (((with_reducible refine (V.out _ HB.out).mono ?_); rintro e w2 ⟨rfl, hb2⟩); replace HB := Lib.hid (HB.out.trans (hb2.mono HB.out.size)); replace km := Lib.hid (km.out.keep hb2); clear hb2)
     have m0 := km.out.cell (i := 0) rfl;have m1 := km.out.cell (i := 1) rfl;have m2 := km.out.cell (i := 2) rfl;have m3 := km.out.cell (i := 3) rfl
     go_wp2_with fail
     clear m0 m1 m2 m3
     (((with_reducible refine (T.out _ HB.out).mono ?_); rintro e w3 ⟨rfl, hb3⟩); replace HB := Lib.hid (HB.out.trans (hb3.mono HB.out.size)); replace km := Lib.hid (km.out.keep hb3); clear hb3)
     have m0 := km.out.cell (i := 0) rfl;have m1 := km.out.cell (i := 1) rfl;have m2 := km.out.cell (i := 2) rfl;have m3 := km.out.cell (i := 3) rfl
     go_wp2_with fail
     clear m0 m1 m2 m3
     (((with_reducible refine (N.out _ HB.out).mono ?_); rintro e w4 ⟨rfl, hb4⟩); replace HB := Lib.hid (HB.out.trans (hb4.mono HB.out.size)); replace km := Lib.hid (km.out.keep hb4); clear hb4)
     clear km
     go_wp2
     go_ret
     exact ⟨rfl, HB.out⟩
    | true =>
     rw [Bool.true_and];rw [h3] at N
     go_enter Tryz.func44, Tryz.ntmps44
     go_upto_region 1 with fail
     have hbm := below_new1 w (.cells #[.slice pa1 n1 c1, .slice pa2 n2 c2, .slice pa3 n3 c3, .slice pa4 n4 c4] 26)
     have zm : (w.alloc (.cells #[.slice pa1 n1 c1, .slice pa2 n2 c2, .slice pa3 n3 c3, .slice pa4 n4 c4] 26)).heap.size = w.heap.size + 1 := by simp
     have HB := Lib.hid hbm;have km := Lib.hid (Lok.new w 26 #[.slice pa1 n1 c1, .slice pa2 n2 c2, .slice pa3 n3 c3, .slice pa4 n4 c4]);clear hbm;generalize w.alloc (.cells #[.slice pa1 n1 c1, .slice pa2 n2 c2, .slice pa3 n3 c3, .slice pa4 n4 c4] 26) = Vm at *;clear zm;have m0 := km.out.cell (i := 0) rfl;have m1 := km.out.cell (i := 1) rfl;have m2 := km.out.cell (i := 2) rfl;have m3 := km.out.cell (i := 3) rfl
     go_wp2_with fail
     clear m0 m1 m2 m3
     (((with_reducible refine (S.out _).mono ?_); rintro e w1 ⟨rfl, hb1⟩); replace HB := Lib.hid (HB.out.trans (hb1.mono HB.out.size)); replace km := Lib.hid (km.out.keep hb1); clear hb1)
     have m0 := km.out.cell (i := 0) rfl;have m1 := km.out.cell (i := 1) rfl;have m2 := km.out.cell (i := 2) rfl;have m3 := km.out.cell (i := 3) rfl
     go_wp2_with fail
     clear m0 m1 m2 m3
     (((with_reducible refine (V.out _ HB.out).mono ?_); rintro e w2 ⟨rfl, hb2⟩); replace HB := Lib.hid (HB.out.trans (hb2.mono HB.out.size)); replace km := Lib.hid (km.out.keep hb2); clear hb2)
     have m0 := km.out.cell (i := 0) rfl;have m1 := km.out.cell (i := 1) rfl;have m2 := km.out.cell (i := 2) rfl;have m3 := km.out.cell (i := 3) rfl
     go_wp2_with fail
     clear m0 m1 m2 m3
     (((with_reducible refine (T.out _ HB.out).mono ?_); rintro e w3 ⟨rfl, hb3⟩); replace HB := Lib.hid (HB.out.trans (hb3.mono HB.out.size)); replace km := Lib.hid (km.out.keep hb3); clear hb3)
     have m0 := km.out.cell (i := 0) rfl;have m1 := km.out.cell (i := 1) rfl;have m2 := km.out.cell (i := 2) rfl;have m3 := km.out.cell (i := 3) rfl
     go_wp2_with fail
     clear m0 m1 m2 m3
     (((with_reducible refine (N.out _ HB.out).mono ?_); rintro e w4 ⟨rfl, hb4⟩); replace HB := Lib.hid (HB.out.trans (hb4.mono HB.out.size)); replace km := Lib.hid (km.out.keep hb4); clear hb4)
     have km0 := km;have HB0 := HB;clear km HB V T N S;have m3 := km0.out.cell (i := 3) rfl
     go_wp2_with fail
     clear m3
     go_loopw [29] (fun x wr => ∃ k : Nat, x = .int .i64 k ∧ k ≤ n4 ∧ (∀ j, j < k → trB n1 n2 n3 (FC j) = true) ∧ Below w4.heap.size w4 wr) (fun x _ => n4 - (intOf x).toNat)
     case atStart => exact ⟨0, rfl, Nat.zero_le _, fun j h => absurd h (by omega), Below.refl _ _⟩
     case round =>
      obtain ⟨k, rfl, hk, hR, hB⟩ := hrel;have HB := Lib.hid (HB0.out.trans (hB.mono HB0.out.size));have BW := Lib.hid hB;have km := Lib.hid (km0.out.keep hB);have HR := Lib.hid hR;have bn4 := M.out.2.2.2.2;clear hB hR
      by_cases hlt : k < n4
      ·obtain ⟨b, o, rfl, hb, hc⟩ := ((M.out.keep HB.out).1.2.2.2).at hlt
       have d0 := hc k hlt 0 (by omega);have d1 := hc k hlt 1 (by omega);have d2 := hc k hlt 2 (by omega);have d3 := hc k hlt 3 (by omega);have d4 := hc k hlt 4 (by omega);have d5 := hc k hlt 5 (by omega);have d6 := hc k hlt 6 (by omega);have d7 := hc k hlt 7 (by omega);have d8 := hc k hlt 8 (by omega);rw [Nat.add_zero] at d0;rw [← Nat.add_assoc] at d1 d2 d3 d4 d5 d6 d7 d8;have no : trB n1 n2 n3 (FC k) = false → allB (fun i => trB n1 n2 n3 (FC i)) n4 = false := allB_no (P := fun i => trB n1 n2 n3 (FC i)) hlt
       have yes : trB n1 n2 n3 (FC k) = true → ∀ j, j < k + 1 → trB n1 n2 n3 (FC j) = true := fun q j hj => by
        by_cases e : j = k
        ·rw [e]; exact q
        ·exact HR.out j (by omega)
       rw [← trB_row n1 n2 n3 (FC k)] at no yes;clear hc;generalize FC k 0 = x0 at *;generalize FC k 1 = x1 at *;generalize FC k 2 = x2 at *;generalize FC k 3 = x3 at *;generalize FC k 4 = x4 at *;generalize FC k 5 = x5 at *;generalize FC k 6 = x6 at *;generalize FC k 7 = x7 at *;generalize FC k 8 = x8 at *;have NO := Lib.hid no;have YES := Lib.hid yes;clear no yes
       have i0 : (0 : Int) ≤ (k : Int) := by omega
       have i1 : (k : Int) < (n4 : Int) := by omega
       have i2 : ((k : Int)).toNat = k := by omega
       have BW2 := Lib.hid (BW.out.trans ((below_new1 wr (.cells #[.int .i64 x0, .int .i64 x1, .int .i64 x2, .int .i64 x3, .int .i64 x4, .int .i64 x5, .int .i64 x6, .int .i64 x7, .int .i64 x8] 88)).mono BW.out.size))
       go_upto_region 6 with fail
       have hbp := below_new1 wr (.cells #[.int .i64 x0, .int .i64 x1, .int .i64 x2, .int .i64 x3, .int .i64 x4, .int .i64 x5, .int .i64 x6, .int .i64 x7, .int .i64 x8] 88);replace km := Lib.hid (km.out.keep hbp)
       have zp : (wr.alloc (.cells #[.int .i64 x0, .int .i64 x1, .int .i64 x2, .int .i64 x3, .int .i64 x4, .int .i64 x5, .int .i64 x6, .int .i64 x7, .int .i64 x8] 88)).heap.size = wr.heap.size + 1 := by simp
       replace HB := Lib.hid (HB.out.trans (hbp.mono HB.out.size));have kp := Lib.hid (Lok.new wr 88 #[.int .i64 x0, .int .i64 x1, .int .i64 x2, .int .i64 x3, .int .i64 x4, .int .i64 x5, .int .i64 x6, .int .i64 x7, .int .i64 x8]);clear hbp;generalize wr.alloc (.cells #[.int .i64 x0, .int .i64 x1, .int .i64 x2, .int .i64 x3, .int .i64 x4, .int .i64 x5, .int .i64 x6, .int .i64 x7, .int .i64 x8] 88) = Vp at *;clear zp d0 d1 d2 d3 d4 d5 d6 d7 d8 BW;have p0 := kp.out.cell (i := 0) rfl;have p1 := kp.out.cell (i := 1) rfl;have p2 := kp.out.cell (i := 2) rfl;have p3 := kp.out.cell (i := 3) rfl;have p4 := kp.out.cell (i := 4) rfl;have p5 := kp.out.cell (i := 5) rfl;have p6 := kp.out.cell (i := 6) rfl;have p7 := kp.out.cell (i := 7) rfl;have p8 := kp.out.cell (i := 8) rfl;have m0 := km.out.cell (i := 0) rfl;have m1 := km.out.cell (i := 1) rfl;have m2 := km.out.cell (i := 2) rfl;have m3 := km.out.cell (i := 3) rfl
       go_wp2_with fail
       clear p0 p1 p2 p3 p4 p5 p6 p7 p8;clear m0 m1 m2 m3;((with_reducible refine (TR.out _ _ _ _ _ _ _ _ _ _).mono ?_); rintro e w5 ⟨rfl, hb5⟩);replace HB := Lib.hid (HB.out.trans (hb5.mono HB.out.size));replace BW2 := Lib.hid (BW2.out.trans (hb5.mono BW2.out.size));clear hb5 kp km
       cases hq : trB n1 n2 n3 (f9 x0 x1 x2 x3 x4 x5 x6 x7 x8) with
       | false =>
        have E := Lib.hid (NO.out hq);clear NO YES hq
        go_wp2
        go_ret
        exact ⟨by rw [E.out]; rfl, HB.out⟩
       | true =>
        have E := Lib.hid (YES.out hq);clear NO YES hq
        go_wp2
        go_roundw
        case rel => exact ⟨k + 1, by go_num, hlt, E.out, BW2.out⟩
        case measure => simp [intOf]; omega
      ·obtain rfl : k = n4 := by omega
       go_wp2
       go_ret
       refine ⟨?_, HB.out⟩
       have e : allB (fun i => trB n1 n2 n3 (FC i)) k = true := allB_yes HR.out
       rw [e]; rfl
end Go.Proofs.YtcnbbanpnoigdaaGreat
