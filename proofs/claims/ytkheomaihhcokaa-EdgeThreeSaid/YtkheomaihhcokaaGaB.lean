/-
  Texts in one: VcA, VcB, VcC, VcD, VcE.
-/
import Derived.Test.YtkheomaihhcokaaVcPl
import Derived.Test.YtkheomaihhcokaaGaA
import Derived.Test.YtkheomaihhcokaaOpenK
import Derived.Lib.MinMax
import Derived.RegionTactic
import Derived.BigRegion
import Derived.Deep.Cut
/-
  Contracts of package vec: isNear, Is2, Is3, parts, cross, below.
-/
namespace Go.Proofs.Ytkheomaihhcokaa
open Go.RowKit

def ints (l : List Int) : Array Value := (l.map fun x => Value.int .i64 x).toArray
theorem ints_at {l : List Int} {k : Nat} (h : k < l.length) : (ints l)[k]? = some (.int .i64 (l.getD k 0)) := by
  unfold ints; simp [h]

set_option maxRecDepth 100000 in
set_option maxHeartbeats 1000000 in
theorem isNear_any (l : List Int) (g c : Nat) (T : TypeId) (w : World) (h : Lok w g T (ints l)) (hl : l.length ≤ 1000000) :
    Calls Try.prog 61 #[.slice (some ⟨g, 0, none⟩) l.length c] w fun e w' => e = .returned (.bool (l.all nB)) ∧ Below w.heap.size w w' := by
  have L := Lib.hid h
  clear h
  go_enter Try.func61, Try.ntmps61
  go_wp2_with fail
  go_loopw [7] (fun x wr => ∃ k : Nat, x = .int .i64 k ∧ k ≤ l.length ∧ (∀ j, j < k → nB (l.getD j 0) = true) ∧ Below w.heap.size w wr) (fun x _ => l.length - (intOf x).toNat)
  case atStart => exact ⟨0, rfl, Nat.zero_le _, fun j h => absurd h (by omega), by (repeat (first | exact Below.refl _ _ | assumption | refine Below.drew ?_ | refine below_drewN ?_ _ | refine Below.setCell ?_ (by first | omega | (simp; done) | (simp; omega)) _ | refine Below.alloc ?_ (by first | omega | (simp; done) | (simp; omega)) _))⟩
  case round =>
    obtain ⟨k, rfl, hk, hR, hB⟩ := hrel
    have HB := Lib.hid hB
    have HR := Lib.hid hR
    have c0 : k < l.length → wr.cell? ⟨g, k, none⟩ = some (.int .i64 (l.getD k 0)) := fun q => (L.out.keep hB).cell (ints_at q)
    clear hB hR
    by_cases hlt : k < l.length
    · replace c0 := c0 hlt
      have no : ¬ NR (l.getD k 0) → l.all nB = false := fun q => by
        rw [List.all_eq_false]
        refine ⟨l.getD k 0, ?_, ?_⟩
        · rw [show l.getD k 0 = l[k] from by simp [hlt]]; exact List.getElem_mem _
        · rw [nB_iff]; exact q
      have yes : NR (l.getD k 0) → ∀ j, j < k + 1 → nB (l.getD j 0) = true := fun q j hj => by
        by_cases e : j = k
        · rw [e]; exact nB_iff.2 q
        · exact HR.out j (by omega)
      unfold NR at no yes
      generalize l.getD k 0 = x at *
      have NO := Lib.hid no
      have YES := Lib.hid yes
      clear no yes
      rcases Int.lt_or_le x (-1048576) with h1 | h1
      · have E := NO.out (by omega)
        have d1 : decide (x < -1048576) = true := decide_eq_true h1
        clear NO YES
        go_wp2
        go_ret
        exact ⟨by rw [E]; rfl, HB.out⟩
      · have d1 : decide (x < -1048576) = false := decide_eq_false (by omega)
        rcases Int.lt_or_le 1048576 x with h2 | h2
        · have E := NO.out (by omega)
          have d2 : decide (1048576 < x) = true := decide_eq_true h2
          clear NO YES
          go_wp2
          go_ret
          exact ⟨by rw [E]; rfl, HB.out⟩
        · have E := YES.out ⟨h1, h2⟩
          have HE := Lib.hid E
          have d2 : decide (1048576 < x) = false := decide_eq_false (by omega)
          clear NO YES E
          go_wp2
          go_roundw
          case rel => exact ⟨k + 1, by go_num, hlt, HE.out, HB.out⟩
          case measure => simp [intOf]; omega
    · obtain rfl : k = l.length := by omega
      clear c0
      go_wp2
      go_ret
      refine ⟨?_, HB.out⟩
      have e : l.all nB = true := by
        rw [List.all_eq_true]
        intro x hx
        obtain ⟨i, hi, rfl⟩ := List.getElem_of_mem hx
        have := HR.out i hi
        rwa [show l.getD i 0 = l[i] from by simp [hi]] at this
      rw [e]; rfl
theorem isNear_2 (x y : Int) (g : Nat) (T : TypeId) (w : World) (h : Lok w g T #[.int .i64 x, .int .i64 y]) :
    Calls Try.prog 61 #[.slice (some ⟨g, 0, none⟩) 2 2] w fun e w' => e = .returned (.bool (n2 x y)) ∧ Below w.heap.size w w' := by
  have q := isNear_any [x, y] g 2 T w h (by simp)
  rw [show [x, y].all nB = n2 x y from by unfold n2; simp [List.all]] at q
  exact q
theorem isNear_3 (x y z : Int) (g : Nat) (T : TypeId) (w : World) (h : Lok w g T #[.int .i64 x, .int .i64 y, .int .i64 z]) :
    Calls Try.prog 61 #[.slice (some ⟨g, 0, none⟩) 3 3] w fun e w' => e = .returned (.bool (n3 x y z)) ∧ Below w.heap.size w w' := by
  have q := isNear_any [x, y, z] g 3 T w h (by simp)
  rw [show [x, y, z].all nB = n3 x y z from by unfold n3; simp [List.all, Bool.and_assoc]] at q
  exact q
end Go.Proofs.Ytkheomaihhcokaa
/-
  Contracts of package vec: Is2, Is3.
-/
namespace Go.Proofs.Ytkheomaihhcokaa
open Go.RowKit

set_option maxRecDepth 100000 in
set_option maxHeartbeats 1000000 in
theorem is2_any (A : Option Addr) (n c : Nat) (F : Nat → Nat → Int) (w : World) (hr : RowK w A n 2 F) (hn : n ≤ 9223372036854775807) :
    Calls Try.prog 44 #[.slice A n c] w fun e w' => e = .returned (.bool (a2 F n)) ∧ Below w.heap.size w w' := by
  have R := Lib.hid hr
  clear hr
  go_enter Try.func44, Try.ntmps44
  go_wp2_with fail
  go_loopw [7] (fun x wr => ∃ k : Nat, x = .int .i64 k ∧ k ≤ n ∧ (∀ j, j < k → n2 (F j 0) (F j 1) = true) ∧ Below w.heap.size w wr) (fun x _ => n - (intOf x).toNat)
  case atStart => exact ⟨0, rfl, Nat.zero_le _, fun j h => absurd h (by omega), by (repeat (first | exact Below.refl _ _ | assumption | refine Below.drew ?_ | refine below_drewN ?_ _ | refine Below.setCell ?_ (by first | omega | (simp; done) | (simp; omega)) _ | refine Below.alloc ?_ (by first | omega | (simp; done) | (simp; omega)) _))⟩
  case round =>
    obtain ⟨k, rfl, hk, hR, hB⟩ := hrel
    have HB := Lib.hid hB
    have HR := Lib.hid hR
    clear hB hR
    by_cases hlt : k < n
    · obtain ⟨b, o, rfl, hb, hc⟩ := (R.out.keep HB.out).at hlt
      have c0 := hc k hlt 0 (by omega)
      have c1 := hc k hlt 1 (by omega)
      rw [Nat.add_zero] at c0
      rw [← Nat.add_assoc] at c1
      have no : n2 (F k 0) (F k 1) = false → a2 F n = false := allB_no (P := fun i => n2 (F i 0) (F i 1)) hlt
      have yes : n2 (F k 0) (F k 1) = true → ∀ j, j < k + 1 → n2 (F j 0) (F j 1) = true := fun q j hj => by
        by_cases e : j = k
        · rw [e]; exact q
        · exact HR.out j (by omega)
      generalize F k 0 = x at *
      generalize F k 1 = y at *
      have NO := Lib.hid no
      have YES := Lib.hid yes
      clear no yes hc
      have i0 : (0 : Int) ≤ (k : Int) := by omega
      have i1 : (k : Int) < (n : Int) := by omega
      have i2 : ((k : Int)).toNat = k := by omega
      go_wp2_with fail
      have hbp := below_new1 wr (.cells #[.int .i64 x, .int .i64 y] 90)
      have zp : (wr.alloc (.cells #[.int .i64 x, .int .i64 y] 90)).heap.size = wr.heap.size + 1 := by simp
      replace HB := Lib.hid (HB.out.trans (hbp.mono HB.out.size))
      have kp := Lib.hid (Lok.new wr 90 #[.int .i64 x, .int .i64 y])
      clear hbp
      generalize wr.alloc (.cells #[.int .i64 x, .int .i64 y] 90) = Vp at *
      have hbq := below_new1 Vp (.cells #[.int .i64 x, .int .i64 y] 3)
      replace kp := Lib.hid (kp.out.keep hbq)
      have zq : (Vp.alloc (.cells #[.int .i64 x, .int .i64 y] 3)).heap.size = Vp.heap.size + 1 := by simp
      replace HB := Lib.hid (HB.out.trans (hbq.mono HB.out.size))
      have kq := Lib.hid (Lok.new Vp 3 #[.int .i64 x, .int .i64 y])
      clear hbq
      generalize Vp.alloc (.cells #[.int .i64 x, .int .i64 y] 3) = Vq at *
      rw [zp] at kq zq
      clear zp zq
      (((with_reducible refine (isNear_2 x y _ _ _ kq.out).mono ?_); rintro e w1 ⟨rfl, hb1⟩); replace HB := Lib.hid (HB.out.trans (hb1.mono HB.out.size)); clear hb1)
      cases hn2 : n2 x y with
      | false =>
        have E := Lib.hid (NO.out hn2)
        clear NO YES hn2 c0 c1
        go_wp2
        go_ret
        exact ⟨by rw [E.out]; rfl, HB.out⟩
      | true =>
        have E := Lib.hid (YES.out hn2)
        clear NO YES hn2 c0 c1
        go_wp2
        go_roundw
        case rel => exact ⟨k + 1, by go_num, hlt, E.out, HB.out⟩
        case measure => simp [intOf]; omega
    · obtain rfl : k = n := by omega
      go_wp2
      go_ret
      refine ⟨?_, HB.out⟩
      have e : a2 F k = true := allB_yes HR.out
      rw [e]; rfl
set_option maxRecDepth 100000 in
set_option maxHeartbeats 1000000 in
theorem is3_any (A : Option Addr) (n c : Nat) (F : Nat → Nat → Int) (w : World) (hr : RowK w A n 3 F) (hn : n ≤ 9223372036854775807) :
    Calls Try.prog 43 #[.slice A n c] w fun e w' => e = .returned (.bool (a3 F n)) ∧ Below w.heap.size w w' := by
  have R := Lib.hid hr
  clear hr
  go_enter Try.func43, Try.ntmps43
  go_wp2_with fail
  go_loopw [7] (fun x wr => ∃ k : Nat, x = .int .i64 k ∧ k ≤ n ∧ (∀ j, j < k → n3 (F j 0) (F j 1) (F j 2) = true) ∧ Below w.heap.size w wr) (fun x _ => n - (intOf x).toNat)
  case atStart => exact ⟨0, rfl, Nat.zero_le _, fun j h => absurd h (by omega), by (repeat (first | exact Below.refl _ _ | assumption | refine Below.drew ?_ | refine below_drewN ?_ _ | refine Below.setCell ?_ (by first | omega | (simp; done) | (simp; omega)) _ | refine Below.alloc ?_ (by first | omega | (simp; done) | (simp; omega)) _))⟩
  case round =>
    obtain ⟨k, rfl, hk, hR, hB⟩ := hrel
    have HB := Lib.hid hB
    have HR := Lib.hid hR
    clear hB hR
    by_cases hlt : k < n
    · obtain ⟨b, o, rfl, hb, hc⟩ := (R.out.keep HB.out).at hlt
      have c0 := hc k hlt 0 (by omega)
      have c1 := hc k hlt 1 (by omega)
      have c2 := hc k hlt 2 (by omega)
      rw [Nat.add_zero] at c0
      rw [← Nat.add_assoc] at c1 c2
      have no : n3 (F k 0) (F k 1) (F k 2) = false → a3 F n = false := allB_no (P := fun i => n3 (F i 0) (F i 1) (F i 2)) hlt
      have yes : n3 (F k 0) (F k 1) (F k 2) = true → ∀ j, j < k + 1 → n3 (F j 0) (F j 1) (F j 2) = true := fun q j hj => by
        by_cases e : j = k
        · rw [e]; exact q
        · exact HR.out j (by omega)
      generalize F k 0 = x at *
      generalize F k 1 = y at *
      generalize F k 2 = z at *
      have NO := Lib.hid no
      have YES := Lib.hid yes
      clear no yes hc
      have i0 : (0 : Int) ≤ (k : Int) := by omega
      have i1 : (k : Int) < (n : Int) := by omega
      have i2 : ((k : Int)).toNat = k := by omega
      go_wp2_with fail
      have hbp := below_new1 wr (.cells #[.int .i64 x, .int .i64 y, .int .i64 z] 87)
      have zp : (wr.alloc (.cells #[.int .i64 x, .int .i64 y, .int .i64 z] 87)).heap.size = wr.heap.size + 1 := by simp
      replace HB := Lib.hid (HB.out.trans (hbp.mono HB.out.size))
      have kp := Lib.hid (Lok.new wr 87 #[.int .i64 x, .int .i64 y, .int .i64 z])
      clear hbp
      generalize wr.alloc (.cells #[.int .i64 x, .int .i64 y, .int .i64 z] 87) = Vp at *
      have hbq := below_new1 Vp (.cells #[.int .i64 x, .int .i64 y, .int .i64 z] 3)
      replace kp := Lib.hid (kp.out.keep hbq)
      have zq : (Vp.alloc (.cells #[.int .i64 x, .int .i64 y, .int .i64 z] 3)).heap.size = Vp.heap.size + 1 := by simp
      replace HB := Lib.hid (HB.out.trans (hbq.mono HB.out.size))
      have kq := Lib.hid (Lok.new Vp 3 #[.int .i64 x, .int .i64 y, .int .i64 z])
      clear hbq
      generalize Vp.alloc (.cells #[.int .i64 x, .int .i64 y, .int .i64 z] 3) = Vq at *
      rw [zp] at kq zq
      clear zp zq
      (((with_reducible refine (isNear_3 x y z _ _ _ kq.out).mono ?_); rintro e w1 ⟨rfl, hb1⟩); replace HB := Lib.hid (HB.out.trans (hb1.mono HB.out.size)); clear hb1)
      cases hn2 : n3 x y z with
      | false =>
        have E := Lib.hid (NO.out hn2)
        clear NO YES hn2 c0 c1
        go_wp2
        go_ret
        exact ⟨by rw [E.out]; rfl, HB.out⟩
      | true =>
        have E := Lib.hid (YES.out hn2)
        clear NO YES hn2 c0 c1
        go_wp2
        go_roundw
        case rel => exact ⟨k + 1, by go_num, hlt, E.out, HB.out⟩
        case measure => simp [intOf]; omega
    · obtain rfl : k = n := by omega
      go_wp2
      go_ret
      refine ⟨?_, HB.out⟩
      have e : a3 F k = true := allB_yes HR.out
      rw [e]; rfl
/-- A row of points that lies in a block of the call's own. -/
theorem rowK_ints {W : World} {g n k : Nat} {T : TypeId} (l : List Int) (h : Lok W g T (ints l)) (hl : l.length = n * k) : RowK W (some ⟨g, 0, none⟩) n k (rowOf k l) := by
  refine .inr ⟨g, 0, rfl, h.lt, fun i hi j hj => ?_⟩
  rw [Nat.zero_add]
  refine h.cell (ints_at ?_)
  rw [hl]
  calc i * k + j < i * k + k := by omega
    _ = (i + 1) * k := by rw [Nat.add_mul, Nat.one_mul]
    _ ≤ n * k := Nat.mul_le_mul_right _ hi
theorem is2_two (a b c d : Int) (g : Nat) (T : TypeId) (w : World) (h : Lok w g T #[.int .i64 a, .int .i64 b, .int .i64 c, .int .i64 d]) :
    Calls Try.prog 44 #[.slice (some ⟨g, 0, none⟩) 2 2] w fun e w' => e = .returned (.bool (n2 a b && n2 c d)) ∧ Below w.heap.size w w' := by
  have q := is2_any _ 2 2 _ w (rowK_ints (n := 2) (k := 2) [a, b, c, d] h rfl) (by omega)
  rw [show a2 (rowOf 2 [a, b, c, d]) 2 = (n2 a b && n2 c d) from by simp [a2, allB, rowOf]] at q
  exact q
theorem is3_two (a b c d e f : Int) (g : Nat) (T : TypeId) (w : World) (h : Lok w g T #[.int .i64 a, .int .i64 b, .int .i64 c, .int .i64 d, .int .i64 e, .int .i64 f]) :
    Calls Try.prog 43 #[.slice (some ⟨g, 0, none⟩) 2 2] w fun e' w' => e' = .returned (.bool (n3 a b c && n3 d e f)) ∧ Below w.heap.size w w' := by
  have q := is3_any _ 2 2 _ w (rowK_ints (n := 2) (k := 3) [a, b, c, d, e, f] h rfl) (by omega)
  rw [show a3 (rowOf 3 [a, b, c, d, e, f]) 2 = (n3 a b c && n3 d e f) from by simp [a3, allB, rowOf]] at q
  exact q
theorem is2_one (a b : Int) (g : Nat) (T : TypeId) (w : World) (h : Lok w g T #[.int .i64 a, .int .i64 b]) :
    Calls Try.prog 44 #[.slice (some ⟨g, 0, none⟩) 1 1] w fun e w' => e = .returned (.bool (n2 a b)) ∧ Below w.heap.size w w' := by
  have q := is2_any _ 1 1 _ w (rowK_ints (n := 1) (k := 2) [a, b] h rfl) (by omega)
  rw [show a2 (rowOf 2 [a, b]) 1 = n2 a b from by simp [a2, allB, rowOf]] at q
  exact q
theorem is3_one (a b c : Int) (g : Nat) (T : TypeId) (w : World) (h : Lok w g T #[.int .i64 a, .int .i64 b, .int .i64 c]) :
    Calls Try.prog 43 #[.slice (some ⟨g, 0, none⟩) 1 1] w fun e w' => e = .returned (.bool (n3 a b c)) ∧ Below w.heap.size w w' := by
  have q := is3_any _ 1 1 _ w (rowK_ints (n := 1) (k := 3) [a, b, c] h rfl) (by omega)
  rw [show a3 (rowOf 3 [a, b, c]) 1 = n3 a b c from by simp [a3, allB, rowOf]] at q
  exact q
theorem is2_none (w : World) :
    Calls Try.prog 44 #[.slice none 0 0] w fun e w' => e = .returned (.bool true) ∧ Below w.heap.size w w' := is2_any none 0 0 (fun _ _ => 0) w (.inl rfl) (by omega)
theorem is3_none (w : World) :
    Calls Try.prog 43 #[.slice none 0 0] w fun e w' => e = .returned (.bool true) ∧ Below w.heap.size w w' := is3_any none 0 0 (fun _ _ => 0) w (.inl rfl) (by omega)
end Go.Proofs.Ytkheomaihhcokaa
/-
  Contracts of package vec: parts, cross, drop, below.
-/
namespace Go.Proofs.Ytkheomaihhcokaa
open Go.RowKit

/-- A cross product's parts stay within 64 bits. -/
theorem cross_wraps {a b c d : Int} (ha : NR a) (hb : NR b) (hc : NR c) (hd : NR d) :
    IntKind.i64.wrap (a * d) = a * d ∧ IntKind.i64.wrap (b * c) = b * c ∧ IntKind.i64.wrap (a * d - b * c) = a * d - b * c := by
  have p := near_prod ha hd
  have q := near_prod hb hc
  exact ⟨IntWalk.i64_in _ (by omega), IntWalk.i64_in _ (by omega), IntWalk.i64_in _ (by omega)⟩

/-- A part by its axis. -/
def pt (x y z : Int) (k : Nat) : Int := if k = 0 then x else if k = 1 then y else z
def dX (x y z : Int) (k : Nat) : Int := pt x y z ((k + 1) % 3)
def dY (x y z : Int) (k : Nat) : Int := pt x y z ((k + 2) % 3)

theorem below_wrap {n : Int} (h : -9223372036854775808 ≤ n) (k : n ≤ 9223372036854775807) : (n = -9223372036854775808 ∧ IntKind.i64.wrap (-n) = n) ∨ IntKind.i64.wrap (-n) = -n := by
  by_cases e : n = -9223372036854775808
  · exact .inl ⟨e, by rw [e]; decide⟩
  · exact .inr (IntWalk.i64_in _ (by omega))
end Go.Proofs.Ytkheomaihhcokaa
/-
  Contracts of package vec: Sub2, Sub3, Cross2, Drop.
-/
namespace Go.Proofs.Ytkheomaihhcokaa
open Go.RowKit

/-- A difference, where both are near. -/
def sF (b : Bool) (x y : Int) : Int := if b = true then x - y else 0
/-- The error where one is not near. -/
def rE (b : Bool) : Int := if b = true then 0 else 5
theorem sub_wrap {x y : Int} (h : NR x) (k : NR y) : IntKind.i64.wrap (x - y) = x - y := IntWalk.i64_in _ (by unfold NR at h k; omega)
theorem is2_b (a b c d : Int) (t : Bool) (ht : (n2 a b && n2 c d) = t) (g : Nat) (T : TypeId) (w : World) (h : Lok w g T #[.int .i64 a, .int .i64 b, .int .i64 c, .int .i64 d]) :
    Calls Try.prog 44 #[.slice (some ⟨g, 0, none⟩) 2 2] w fun e w' => e = .returned (.bool t) ∧ Below w.heap.size w w' := by
  rw [← ht]; exact is2_two a b c d g T w h
theorem is3_b (a b c d e f : Int) (t : Bool) (ht : (n3 a b c && n3 d e f) = t) (g : Nat) (T : TypeId) (w : World) (h : Lok w g T #[.int .i64 a, .int .i64 b, .int .i64 c, .int .i64 d, .int .i64 e, .int .i64 f]) :
    Calls Try.prog 43 #[.slice (some ⟨g, 0, none⟩) 2 2] w fun e' w' => e' = .returned (.bool t) ∧ Below w.heap.size w w' := by
  rw [← ht]; exact is3_two a b c d e f g T w h

/-- A cross product, where both are near. -/
def xF (t : Bool) (a b c d : Int) : Int := if t = true then a * d - b * c else 0
/-- Drop's answers. -/
def axB (k : Int) : Prop := 0 ≤ k ∧ k ≤ 2
instance (k : Int) : Decidable (axB k) := by unfold axB; infer_instance
def dpX (x y z k : Int) : Int := if axB k then dX x y z k.toNat else 0
def dpY (x y z k : Int) : Int := if axB k then dY x y z k.toNat else 0
def dpE (k : Int) : Int := if axB k then 0 else 1
end Go.Proofs.Ytkheomaihhcokaa
/-
  Contracts of package vec: Dot.
-/
namespace Go.Proofs.Ytkheomaihhcokaa
open Go.RowKit

/-- The sum of the first k products. -/
def dS (a b c d e f : Int) : Nat → Int
  | 0 => 0
  | k + 1 => dS a b c d e f k + pt a b c k * pt d e f k
def dF (t : Bool) (a b c d e f : Int) : Int := if t = true then a * d + b * e + c * f else 0
theorem dS_3 (a b c d e f : Int) : dS a b c d e f 3 = a * d + b * e + c * f := by simp [dS, pt]
theorem pt_near {a b c : Int} (ha : NR a) (hb : NR b) (hc : NR c) (k : Nat) : NR (pt a b c k) := by
  unfold pt; split
  · exact ha
  · split
    · exact hb
    · exact hc
theorem dS_bd {a b c d e f : Int} (ha : NR a) (hb : NR b) (hc : NR c) (hd : NR d) (he : NR e) (hf : NR f) (k : Nat) : -(1099511627776 * (k : Int)) ≤ dS a b c d e f k ∧ dS a b c d e f k ≤ 1099511627776 * (k : Int) := by
  induction k with
  | zero => exact ⟨by show _ ≤ (0 : Int); omega, by show (0 : Int) ≤ _; omega⟩
  | succ k ih =>
    have p := near_prod (pt_near ha hb hc k) (pt_near hd he hf k)
    show _ ≤ dS a b c d e f k + pt a b c k * pt d e f k ∧ dS a b c d e f k + pt a b c k * pt d e f k ≤ _
    omega
theorem pt_at (a b c : Int) {k : Nat} (h : k < 3) : (#[Value.int .i64 a, Value.int .i64 b, Value.int .i64 c] : Array Value)[k]? = some (.int .i64 (pt a b c k)) := by
  rcases show k = 0 ∨ k = 1 ∨ k = 2 by omega with rfl | rfl | rfl <;> rfl

end Go.Proofs.Ytkheomaihhcokaa
