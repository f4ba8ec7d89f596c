/-
  Contracts of package sign: within, Small2, Small3. (gen/SgA.py)
-/
import Derived.Test.YtfghjfgdjlkooaaVcB
import Derived.Test.YtfghjfgdjlkooaaSgPl
namespace Go.Proofs.Ytfghjfgdjlkooaa
open Go.RowKit

set_option maxRecDepth 100000 in
set_option maxHeartbeats 1000000 in
theorem within_any (m : Int) (hm0 : 0 ≤ m) (hm1 : m ≤ 1000000) (l : List Int) (g c : Nat) (T : TypeId) (w : World) (h : Lok w g T (ints l)) (hl : l.length ≤ 1000000) :
    Calls Try.prog 37 #[.int .i64 m, .slice (some ⟨g, 0, none⟩) l.length c] w fun e w' => e = .returned (.bool (l.all (sB m))) ∧ Below w.heap.size w w' := by
  have L := Lib.hid h
  clear h
  have wm : IntKind.i64.wrap (-m) = -m := IntWalk.i64_in _ (by omega)
  go_enter Try.func37, Try.ntmps37
  go_wp2_with fail
  go_loopw [9] (fun x wr => ∃ k : Nat, x = .int .i64 k ∧ k ≤ l.length ∧ (∀ j, j < k → sB m (l.getD j 0) = true) ∧ Below w.heap.size w wr) (fun x _ => l.length - (intOf x).toNat)
  case atStart => exact ⟨0, rfl, Nat.zero_le _, fun j h => absurd h (by omega), by (repeat (first | exact Below.refl _ _ | assumption | refine Below.drew ?_ | refine below_drewN ?_ _ | refine Below.setCell ?_ (by first | omega | (simp; done) | (simp; omega)) _ | refine Below.alloc ?_ (by first | omega | (simp; done) | (simp; omega)) _))⟩
  case round =>
    obtain ⟨k, rfl, hk, hR, hB⟩ := hrel
    have HB := Lib.hid hB
    have HR := Lib.hid hR
    have c0 : k < l.length → wr.cell? ⟨g, k, none⟩ = some (.int .i64 (l.getD k 0)) := fun q => (L.out.keep hB).cell (ints_at q)
    clear hB hR
    by_cases hlt : k < l.length
    · replace c0 := c0 hlt
      have no : ¬ SM m (l.getD k 0) → l.all (sB m) = false := fun q => by
        rw [List.all_eq_false]
        refine ⟨l.getD k 0, ?_, ?_⟩
        · rw [show l.getD k 0 = l[k] from by simp [hlt]]; exact List.getElem_mem _
        · rw [sB_iff]; exact q
      have yes : SM m (l.getD k 0) → ∀ j, j < k + 1 → sB m (l.getD j 0) = true := fun q j hj => by
        by_cases e : j = k
        · rw [e]; exact sB_iff.2 q
        · exact HR.out j (by omega)
      unfold SM at no yes
      generalize l.getD k 0 = x at *
      have NO := Lib.hid no
      have YES := Lib.hid yes
      clear no yes
      rcases Int.lt_or_le x (-m) with h1 | h1
      · have E := NO.out (by omega)
        have d1 : decide (x < -m) = true := decide_eq_true h1
        clear NO YES
        go_wp2
        go_ret
        exact ⟨by rw [E]; rfl, HB.out⟩
      · have d1 : decide (x < -m) = false := decide_eq_false (by omega)
        rcases Int.lt_or_le m x with h2 | h2
        · have E := NO.out (by omega)
          have d2 : decide (m < x) = true := decide_eq_true h2
          clear NO YES
          go_wp2
          go_ret
          exact ⟨by rw [E]; rfl, HB.out⟩
        · have E := YES.out ⟨h1, h2⟩
          have HE := Lib.hid E
          have d2 : decide (m < x) = false := decide_eq_false (by omega)
          clear NO YES E
          go_wp2
          go_roundw
          case rel => exact ⟨k + 1, by go_num, hlt, HE.out, HB.out⟩
          case measure => simp [intOf]; omega
    · obtain rfl : k = l.length := by omega
      clear c0
      go_wp2
      go_ret
      refine ⟨?_, HB.out⟩
      have e : l.all (sB m) = true := by
        rw [List.all_eq_true]
        intro x hx
        obtain ⟨i, hi, rfl⟩ := List.getElem_of_mem hx
        have := HR.out i hi
        rwa [show l.getD i 0 = l[i] from by simp [hi]] at this
      rw [e]; rfl
theorem within_2 (m : Int) (hm0 : 0 ≤ m) (hm1 : m ≤ 1000000) (x y : Int) (g : Nat) (T : TypeId) (w : World) (h : Lok w g T #[.int .i64 x, .int .i64 y]) :
    Calls Try.prog 37 #[.int .i64 m, .slice (some ⟨g, 0, none⟩) 2 2] w fun e w' => e = .returned (.bool (sB m x && sB m y)) ∧ Below w.heap.size w w' := by
  have q := within_any m hm0 hm1 [x, y] g 2 T w h (by simp)
  rw [show [x, y].all (sB m) = (sB m x && sB m y) from by simp [List.all]] at q
  exact q
theorem within_3 (m : Int) (hm0 : 0 ≤ m) (hm1 : m ≤ 1000000) (x y z : Int) (g : Nat) (T : TypeId) (w : World) (h : Lok w g T #[.int .i64 x, .int .i64 y, .int .i64 z]) :
    Calls Try.prog 37 #[.int .i64 m, .slice (some ⟨g, 0, none⟩) 3 3] w fun e w' => e = .returned (.bool (sB m x && sB m y && sB m z)) ∧ Below w.heap.size w w' := by
  have q := within_any m hm0 hm1 [x, y, z] g 3 T w h (by simp)
  rw [show [x, y, z].all (sB m) = (sB m x && sB m y && sB m z) from by simp [List.all, Bool.and_assoc]] at q
  exact q
set_option maxRecDepth 100000 in
set_option maxHeartbeats 1000000 in
theorem small3_any (A : Option Addr) (n c : Nat) (F : Nat → Nat → Int) (w : World) (hr : RowK w A n 3 F) (hn : n ≤ 9223372036854775807) :
    Calls Try.prog 22 #[.slice A n c] w fun e w' => e = .returned (.bool (aS3 F n)) ∧ Below w.heap.size w w' := by
  have R := Lib.hid hr
  clear hr
  go_enter Try.func22, Try.ntmps22
  go_wp2_with fail
  go_loopw [7] (fun x wr => ∃ k : Nat, x = .int .i64 k ∧ k ≤ n ∧ (∀ j, j < k → s3 (F j 0) (F j 1) (F j 2) = true) ∧ Below w.heap.size w wr) (fun x _ => n - (intOf x).toNat)
  case atStart => exact ⟨0, rfl, Nat.zero_le _, fun j h => absurd h (by omega), by (repeat (first | exact Below.refl _ _ | assumption | refine Below.drew ?_ | refine below_drewN ?_ _ | refine Below.setCell ?_ (by first | omega | (simp; done) | (simp; omega)) _ | refine Below.alloc ?_ (by first | omega | (simp; done) | (simp; omega)) _))⟩
  case round =>
    obtain ⟨k, rfl, hk, hR, hB⟩ := hrel
    have HB := Lib.hid hB
    have HR := Lib.hid hR
    clear hB hR
    by_cases hlt : k < n
    · obtain ⟨b, o, rfl, hb, hc⟩ := (R.out.keep HB.out).at hlt
      have c0 := hc k hlt 0 (by omega)
      have c1 := hc k hlt 1 (by omega)
      have c2 := hc k hlt 2 (by omega)
      rw [Nat.add_zero] at c0
      rw [← Nat.add_assoc] at c1 c2
      have no : s3 (F k 0) (F k 1) (F k 2) = false → aS3 F n = false := allB_no (P := fun i => s3 (F i 0) (F i 1) (F i 2)) hlt
      have yes : s3 (F k 0) (F k 1) (F k 2) = true → ∀ j, j < k + 1 → s3 (F j 0) (F j 1) (F j 2) = true := fun q j hj => by
        by_cases e : j = k
        · rw [e]; exact q
        · exact HR.out j (by omega)
      generalize F k 0 = x at *
      generalize F k 1 = y at *
      generalize F k 2 = z at *
      have NO := Lib.hid no
      have YES := Lib.hid yes
      clear no yes hc
      have i0 : (0 : Int) ≤ (k : Int) := by omega
      have i1 : (k : Int) < (n : Int) := by omega
      have i2 : ((k : Int)).toNat = k := by omega
      go_wp2_with fail
      have hbp := below_new1 wr (.cells #[.int .i64 x, .int .i64 y, .int .i64 z] 23)
      have zp : (wr.alloc (.cells #[.int .i64 x, .int .i64 y, .int .i64 z] 23)).heap.size = wr.heap.size + 1 := by simp
      replace HB := Lib.hid (HB.out.trans (hbp.mono HB.out.size))
      have kp := Lib.hid (Lok.new wr 23 #[.int .i64 x, .int .i64 y, .int .i64 z])
      clear hbp
      generalize wr.alloc (.cells #[.int .i64 x, .int .i64 y, .int .i64 z] 23) = Vp at *
      have hbq := below_new1 Vp (.cells #[.int .i64 x, .int .i64 y, .int .i64 z] 3)
      replace kp := Lib.hid (kp.out.keep hbq)
      have zq : (Vp.alloc (.cells #[.int .i64 x, .int .i64 y, .int .i64 z] 3)).heap.size = Vp.heap.size + 1 := by simp
      replace HB := Lib.hid (HB.out.trans (hbq.mono HB.out.size))
      have kq := Lib.hid (Lok.new Vp 3 #[.int .i64 x, .int .i64 y, .int .i64 z])
      clear hbq
      generalize Vp.alloc (.cells #[.int .i64 x, .int .i64 y, .int .i64 z] 3) = Vq at *
      rw [zp] at kq zq
      clear zp zq
      (((with_reducible refine (within_3 16384 (by omega) (by omega) x y z _ _ _ kq.out).mono ?_); rintro e w1 ⟨rfl, hb1⟩); replace HB := Lib.hid (HB.out.trans (hb1.mono HB.out.size)); clear hb1)
      rw [show (sB 16384 x && sB 16384 y && sB 16384 z) = s3 x y z from rfl]
      cases hn2 : s3 x y z with
      | false =>
        have E := Lib.hid (NO.out hn2)
        clear NO YES hn2 c0 c1
        go_wp2
        go_ret
        exact ⟨by rw [E.out]; rfl, HB.out⟩
      | true =>
        have E := Lib.hid (YES.out hn2)
        clear NO YES hn2 c0 c1
        go_wp2
        go_roundw
        case rel => exact ⟨k + 1, by go_num, hlt, E.out, HB.out⟩
        case measure => simp [intOf]; omega
    · obtain rfl : k = n := by omega
      go_wp2
      go_ret
      refine ⟨?_, HB.out⟩
      have e : aS3 F k = true := allB_yes HR.out
      rw [e]; rfl
theorem small3_1 (a1 a2 a3 : Int) (u : Bool) (hu : (s3 a1 a2 a3) = u) (g : Nat) (T : TypeId) (w : World) (h : Lok w g T #[.int .i64 a1, .int .i64 a2, .int .i64 a3]) :
    Calls Try.prog 22 #[.slice (some ⟨g, 0, none⟩) 1 1] w fun e w' => e = .returned (.bool u) ∧ Below w.heap.size w w' := by
  have q := small3_any _ 1 1 _ w (rowK_ints (n := 1) (k := 3) [a1, a2, a3] h rfl) (by omega)
  rw [show aS3 (rowOf 3 [a1, a2, a3]) 1 = u from by rw [← hu]; simp [aS3, allB, rowOf]] at q
  exact q
theorem small3_2 (a1 a2 a3 b1 b2 b3 : Int) (u : Bool) (hu : (s3 a1 a2 a3 && s3 b1 b2 b3) = u) (g : Nat) (T : TypeId) (w : World) (h : Lok w g T #[.int .i64 a1, .int .i64 a2, .int .i64 a3, .int .i64 b1, .int .i64 b2, .int .i64 b3]) :
    Calls Try.prog 22 #[.slice (some ⟨g, 0, none⟩) 2 2] w fun e w' => e = .returned (.bool u) ∧ Below w.heap.size w w' := by
  have q := small3_any _ 2 2 _ w (rowK_ints (n := 2) (k := 3) [a1, a2, a3, b1, b2, b3] h rfl) (by omega)
  rw [show aS3 (rowOf 3 [a1, a2, a3, b1, b2, b3]) 2 = u from by rw [← hu]; simp [aS3, allB, rowOf]] at q
  exact q
theorem small3_3 (a1 a2 a3 b1 b2 b3 c1 c2 c3 : Int) (u : Bool) (hu : (s3 a1 a2 a3 && s3 b1 b2 b3 && s3 c1 c2 c3) = u) (g : Nat) (T : TypeId) (w : World) (h : Lok w g T #[.int .i64 a1, .int .i64 a2, .int .i64 a3, .int .i64 b1, .int .i64 b2, .int .i64 b3, .int .i64 c1, .int .i64 c2, .int .i64 c3]) :
    Calls Try.prog 22 #[.slice (some ⟨g, 0, none⟩) 3 3] w fun e w' => e = .returned (.bool u) ∧ Below w.heap.size w w' := by
  have q := small3_any _ 3 3 _ w (rowK_ints (n := 3) (k := 3) [a1, a2, a3, b1, b2, b3, c1, c2, c3] h rfl) (by omega)
  rw [show aS3 (rowOf 3 [a1, a2, a3, b1, b2, b3, c1, c2, c3]) 3 = u from by rw [← hu]; simp [aS3, allB, rowOf]] at q
  exact q
theorem small3_4 (a1 a2 a3 b1 b2 b3 c1 c2 c3 d1 d2 d3 : Int) (u : Bool) (hu : (s3 a1 a2 a3 && s3 b1 b2 b3 && s3 c1 c2 c3 && s3 d1 d2 d3) = u) (g : Nat) (T : TypeId) (w : World) (h : Lok w g T #[.int .i64 a1, .int .i64 a2, .int .i64 a3, .int .i64 b1, .int .i64 b2, .int .i64 b3, .int .i64 c1, .int .i64 c2, .int .i64 c3, .int .i64 d1, .int .i64 d2, .int .i64 d3]) :
    Calls Try.prog 22 #[.slice (some ⟨g, 0, none⟩) 4 4] w fun e w' => e = .returned (.bool u) ∧ Below w.heap.size w w' := by
  have q := small3_any _ 4 4 _ w (rowK_ints (n := 4) (k := 3) [a1, a2, a3, b1, b2, b3, c1, c2, c3, d1, d2, d3] h rfl) (by omega)
  rw [show aS3 (rowOf 3 [a1, a2, a3, b1, b2, b3, c1, c2, c3, d1, d2, d3]) 4 = u from by rw [← hu]; simp [aS3, allB, rowOf]] at q
  exact q
theorem small3_5 (a1 a2 a3 b1 b2 b3 c1 c2 c3 d1 d2 d3 e1 e2 e3 : Int) (u : Bool) (hu : (s3 a1 a2 a3 && s3 b1 b2 b3 && s3 c1 c2 c3 && s3 d1 d2 d3 && s3 e1 e2 e3) = u) (g : Nat) (T : TypeId) (w : World) (h : Lok w g T #[.int .i64 a1, .int .i64 a2, .int .i64 a3, .int .i64 b1, .int .i64 b2, .int .i64 b3, .int .i64 c1, .int .i64 c2, .int .i64 c3, .int .i64 d1, .int .i64 d2, .int .i64 d3, .int .i64 e1, .int .i64 e2, .int .i64 e3]) :
    Calls Try.prog 22 #[.slice (some ⟨g, 0, none⟩) 5 5] w fun e w' => e = .returned (.bool u) ∧ Below w.heap.size w w' := by
  have q := small3_any _ 5 5 _ w (rowK_ints (n := 5) (k := 3) [a1, a2, a3, b1, b2, b3, c1, c2, c3, d1, d2, d3, e1, e2, e3] h rfl) (by omega)
  rw [show aS3 (rowOf 3 [a1, a2, a3, b1, b2, b3, c1, c2, c3, d1, d2, d3, e1, e2, e3]) 5 = u from by rw [← hu]; simp [aS3, allB, rowOf]] at q
  exact q
end Go.Proofs.Ytfghjfgdjlkooaa
