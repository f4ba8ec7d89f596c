import Derived.Below
import Derived.Test.YtcnbbanpnoigdaaGreatHb
import Derived.IntWalk
import Derived.Lib.MinMax
import Derived.RegionTactic
import Derived.BigRegion
import Derived.Deep.Cut
namespace Go.Proofs.YtcnbbanpnoigdaaGreat
def ordI (x y : Int) : Int := if x < y then -1 else if y < x then 1 else 0
theorem ordI_lt {x y : Int} (h : x < y) : ordI x y = -1 := if_pos h
theorem ordI_gt {x y : Int} (h : y < x) : ordI x y = 1 := by unfold ordI; rw [if_neg (by omega), if_pos h]
theorem ordI_eq {x y : Int} (h : x = y) : ordI x y = 0 := by unfold ordI; rw [if_neg (by omega), if_neg (by omega)]
theorem ordI_ways (x y : Int) : (x < y ∧ ordI x y = -1) ∨ (x = y ∧ ordI x y = 0) ∨ (y < x ∧ ordI x y = 1) := by
 rcases Int.lt_trichotomy x y with h | h | h
 ·exact .inl ⟨h, ordI_lt h⟩
 ·exact .inr (.inl ⟨h, ordI_eq h⟩)
 ·exact .inr (.inr ⟨h, ordI_gt h⟩)
def FR (n d : Int) : Prop := 1 ≤ d ∧ d ≤ 1000000000000000000 ∧ -1000000000000000000 ≤ n ∧ n ≤ 1000000000000000000
instance (n d : Int) : Decidable (FR n d) := by unfold FR; infer_instance
def isF (n d : Int) : Bool := decide (FR n d)
def rkF (n d : Int) : Int := if FR n d then 1 else 0
def or3 (x y z : Int) : Int := if x ≠ 0 then x else if y ≠ 0 then y else z
def cmpF (an ad bn bd : Int) : Int := if FR an ad ∧ FR bn bd then ordI (an * bd) (bn * ad) else or3 (ordI (rkF an ad) (rkF bn bd)) (ordI an bn) (ordI ad bd)
end Go.Proofs.YtcnbbanpnoigdaaGreat
namespace Go.Proofs.YtcnbbanpnoigdaaGreat

def SM (m n : Int) : Prop := -m ≤ n ∧ n ≤ m
instance (m n : Int) : Decidable (SM m n) := by unfold SM; infer_instance
def sB (m n : Int) : Bool := decide (SM m n)
def s2 (x y : Int) : Bool := sB 4096 x && sB 4096 y
def s3 (x y z : Int) : Bool := sB 16384 x && sB 16384 y && sB 16384 z
theorem sB_iff {m n : Int} : sB m n = true ↔ SM m n := by unfold sB; exact decide_eq_true_iff
theorem sB_not {m n : Int} : sB m n = false ↔ ¬ SM m n := by unfold sB; exact decide_eq_false_iff_not
theorem s2_iff {x y : Int} : s2 x y = true ↔ SM 4096 x ∧ SM 4096 y := by unfold s2; rw [Bool.and_eq_true, sB_iff, sB_iff]
theorem s3_iff {x y z : Int} : s3 x y z = true ↔ SM 16384 x ∧ SM 16384 y ∧ SM 16384 z := by unfold s3; rw [Bool.and_eq_true, Bool.and_eq_true, sB_iff, sB_iff, sB_iff, and_assoc]
def aS2 (F : Nat → Nat → Int) (n : Nat) : Bool := allB (fun i => s2 (F i 0) (F i 1)) n
def aS3 (F : Nat → Nat → Int) (n : Nat) : Bool := allB (fun i => s3 (F i 0) (F i 1) (F i 2)) n
def vF (t : Bool) (v : Int) : Int := if t = true then v else 0
theorem vF_yes (v : Int) : vF true v = v := rfl
theorem vF_no (v : Int) : vF false v = 0 := rfl
def ar (a b c d e f : Int) : Int := (c - a) * (f - b) - (d - b) * (e - a)
def vo (a1 a2 a3 b1 b2 b3 c1 c2 c3 d1 d2 d3 : Int) : Int := ar a2 a3 b2 b3 c2 c3 * (d1 - a1) + ar a3 a1 b3 b1 c3 c1 * (d2 - a2) + ar a1 a2 b1 b2 c1 c2 * (d3 - a3)
theorem abs_prod {a b : Int} {m n : Nat} (ha : a.natAbs ≤ m) (hb : b.natAbs ≤ n) : (a * b).natAbs ≤ m * n := by
 rw [Int.natAbs_mul]; exact Nat.mul_le_mul ha hb
theorem ar_bd3 {a b c d e f : Int} (ha : SM 16384 a) (hb : SM 16384 b) (hc : SM 16384 c) (hd : SM 16384 d) (he : SM 16384 e) (hf : SM 16384 f) : -2147483648 ≤ ar a b c d e f ∧ ar a b c d e f ≤ 2147483648 := by
 unfold SM at *;have p := abs_prod (a := c - a) (b := f - b) (m := 32768) (n := 32768) (by omega) (by omega);have q := abs_prod (a := d - b) (b := e - a) (m := 32768) (n := 32768) (by omega) (by omega);unfold ar
 omega
theorem near_s2 {m n : Int} (hm : m ≤ 1048576) (h : SM m n) : NR n := by unfold SM at h; unfold NR; omega
theorem near_d {m a b : Int} (hm : m ≤ 500000) (h : SM m a) (k : SM m b) : NR (a - b) := by unfold SM at h k; unfold NR; omega
theorem n2_of {x y : Int} (h : s2 x y = true) : n2 x y = true := by obtain ⟨a, b⟩ := s2_iff.1 h; exact n2_iff.2 ⟨near_s2 (by omega) a, near_s2 (by omega) b⟩
theorem n3_of {x y z : Int} (h : s3 x y z = true) : n3 x y z = true := by obtain ⟨a, b, c⟩ := s3_iff.1 h; exact n3_iff.2 ⟨near_s2 (by omega) a, near_s2 (by omega) b, near_s2 (by omega) c⟩
theorem n2_d {a b c d : Int} (h : s2 a b = true) (k : s2 c d = true) : n2 (c - a) (d - b) = true := by obtain ⟨p, q⟩ := s2_iff.1 h; obtain ⟨r, s⟩ := s2_iff.1 k; exact n2_iff.2 ⟨near_d (by omega) r p, near_d (by omega) s q⟩
theorem n3_d {a b c d e f : Int} (h : s3 a b c = true) (k : s3 d e f = true) : n3 (d - a) (e - b) (f - c) = true := by obtain ⟨p, q, r⟩ := s3_iff.1 h; obtain ⟨s, t, u⟩ := s3_iff.1 k; exact n3_iff.2 ⟨near_d (by omega) s p, near_d (by omega) t q, near_d (by omega) u r⟩
end Go.Proofs.YtcnbbanpnoigdaaGreat
namespace Go.Proofs.YtcnbbanpnoigdaaGreat
open Go.RowKit

set_option maxRecDepth 100000 in
set_option maxHeartbeats 1000000 in
theorem within_any (m : Int) (hm0 : 0 ≤ m) (hm1 : m ≤ 1000000) (l : List Int) (g c : Nat) (T : TypeId) (w : World) (h : Lok w g T (ints l)) (hl : l.length ≤ 1000000) :
  Calls Tryz.prog 107 #[.int .i64 m, .slice (some ⟨g, 0, none⟩) l.length c] w fun e w' => e = .returned (.bool (l.all (sB m))) ∧ Below w.heap.size w w' := by
 have L := Lib.hid h;clear h;have wm : IntKind.i64.wrap (-m) = -m := IntWalk.i64_in _ (by omega)
 go_enter Tryz.func107, Tryz.ntmps107
 go_wp2_with fail
 go_loopw [9] (fun x wr => ∃ k : Nat, x = .int .i64 k ∧ k ≤ l.length ∧ (∀ j, j < k → sB m (l.getD j 0) = true) ∧ Below w.heap.size w wr) (fun x _ => l.length - (intOf x).toNat)
 case atStart => exact ⟨0, rfl, Nat.zero_le _, fun j h => absurd h (by omega), by (repeat (first | exact Below.refl _ _ | assumption | refine Below.drew ?_ | refine below_drewN ?_ _ | refine Below.setCell ?_ (by first | omega | (simp; done) | (simp; omega)) _ | refine Below.alloc ?_ (by first | omega | (simp; done) | (simp; omega)) _))⟩
 case round =>
  obtain ⟨k, rfl, hk, hR, hB⟩ := hrel;have HB := Lib.hid hB;have HR := Lib.hid hR;have c0 : k < l.length → wr.cell? ⟨g, k, none⟩ = some (.int .i64 (l.getD k 0)) := fun q => (L.out.keep hB).cell (ints_at q);clear hB hR
  by_cases hlt : k < l.length
  ·replace c0 := c0 hlt
   have no : ¬ SM m (l.getD k 0) → l.all (sB m) = false := fun q => by
    rw [List.all_eq_false]
    refine ⟨l.getD k 0, ?_, ?_⟩
    ·rw [show l.getD k 0 = l[k] from by simp [hlt]]; exact List.getElem_mem _
    ·rw [sB_iff]; exact q
   have yes : SM m (l.getD k 0) → ∀ j, j < k + 1 → sB m (l.getD j 0) = true := fun q j hj => by
    by_cases e : j = k
    ·rw [e]; exact sB_iff.2 q
    ·exact HR.out j (by omega)
   unfold SM at no yes;generalize l.getD k 0 = x at *;have NO := Lib.hid no;have YES := Lib.hid yes;clear no yes
   rcases Int.lt_or_le x (-m) with h1 | h1
   ·have E := NO.out (by omega)
    have d1 : decide (x < -m) = true := decide_eq_true h1;clear NO YES
    go_wp2
    go_ret
    exact ⟨by rw [E]; rfl, HB.out⟩
   ·have d1 : decide (x < -m) = false := decide_eq_false (by omega)
    rcases Int.lt_or_le m x with h2 | h2
    ·have E := NO.out (by omega)
     have d2 : decide (m < x) = true := decide_eq_true h2;clear NO YES
     go_wp2
     go_ret
     exact ⟨by rw [E]; rfl, HB.out⟩
    ·have E := YES.out ⟨h1, h2⟩
     have HE := Lib.hid E;have d2 : decide (m < x) = false := decide_eq_false (by omega);clear NO YES E
     go_wp2
     go_roundw
     case rel => exact ⟨k + 1, by go_num, hlt, HE.out, HB.out⟩
     case measure => simp [intOf]; omega
  ·obtain rfl : k = l.length := by omega
   clear c0
   go_wp2
   go_ret
   refine ⟨?_, HB.out⟩
   have e : l.all (sB m) = true := by
    rw [List.all_eq_true]
    intro x hx
    obtain ⟨i, hi, rfl⟩ := List.getElem_of_mem hx;have := HR.out i hi
    rwa [show l.getD i 0 = l[i] from by simp [hi]] at this
   rw [e]; rfl
theorem within_2 (m : Int) (hm0 : 0 ≤ m) (hm1 : m ≤ 1000000) (x y : Int) (g : Nat) (T : TypeId) (w : World) (h : Lok w g T #[.int .i64 x, .int .i64 y]) :
  Calls Tryz.prog 107 #[.int .i64 m, .slice (some ⟨g, 0, none⟩) 2 2] w fun e w' => e = .returned (.bool (sB m x && sB m y)) ∧ Below w.heap.size w w' := by
 have q := within_any m hm0 hm1 [x, y] g 2 T w h (by simp);rw [show [x, y].all (sB m) = (sB m x && sB m y) from by simp [List.all]] at q
 exact q
theorem within_3 (m : Int) (hm0 : 0 ≤ m) (hm1 : m ≤ 1000000) (x y z : Int) (g : Nat) (T : TypeId) (w : World) (h : Lok w g T #[.int .i64 x, .int .i64 y, .int .i64 z]) :
  Calls Tryz.prog 107 #[.int .i64 m, .slice (some ⟨g, 0, none⟩) 3 3] w fun e w' => e = .returned (.bool (sB m x && sB m y && sB m z)) ∧ Below w.heap.size w w' := by
 have q := within_any m hm0 hm1 [x, y, z] g 3 T w h (by simp);rw [show [x, y, z].all (sB m) = (sB m x && sB m y && sB m z) from by simp [List.all, Bool.and_assoc]] at q
 exact q
set_option maxRecDepth 100000 in
set_option maxHeartbeats 1000000 in
theorem small2_any (A : Option Addr) (n c : Nat) (F : Nat → Nat → Int) (w : World) (hr : RowK w A n 2 F) (hn : n ≤ 9223372036854775807) :
  Calls Tryz.prog 138 #[.slice A n c] w fun e w' => e = .returned (.bool (aS2 F n)) ∧ Below w.heap.size w w' := by
 have R := Lib.hid hr;clear hr
 go_enter Tryz.func138, Tryz.ntmps138
 go_wp2_with fail
 go_loopw [7] (fun x wr => ∃ k : Nat, x = .int .i64 k ∧ k ≤ n ∧ (∀ j, j < k → s2 (F j 0) (F j 1) = true) ∧ Below w.heap.size w wr) (fun x _ => n - (intOf x).toNat)
 case atStart => exact ⟨0, rfl, Nat.zero_le _, fun j h => absurd h (by omega), by (repeat (first | exact Below.refl _ _ | assumption | refine Below.drew ?_ | refine below_drewN ?_ _ | refine Below.setCell ?_ (by first | omega | (simp; done) | (simp; omega)) _ | refine Below.alloc ?_ (by first | omega | (simp; done) | (simp; omega)) _))⟩
 case round =>
  obtain ⟨k, rfl, hk, hR, hB⟩ := hrel;have HB := Lib.hid hB;have HR := Lib.hid hR;clear hB hR
  by_cases hlt : k < n
  ·obtain ⟨b, o, rfl, hb, hc⟩ := (R.out.keep HB.out).at hlt
   have c0 := hc k hlt 0 (by omega);have c1 := hc k hlt 1 (by omega);rw [Nat.add_zero] at c0;rw [← Nat.add_assoc] at c1;have no : s2 (F k 0) (F k 1) = false → aS2 F n = false := allB_no (P := fun i => s2 (F i 0) (F i 1)) hlt
   have yes : s2 (F k 0) (F k 1) = true → ∀ j, j < k + 1 → s2 (F j 0) (F j 1) = true := fun q j hj => by
    by_cases e : j = k
    ·rw [e]; exact q
    ·exact HR.out j (by omega)
   generalize F k 0 = x at *;generalize F k 1 = y at *;have NO := Lib.hid no;have YES := Lib.hid yes;clear no yes hc
   have i0 : (0 : Int) ≤ (k : Int) := by omega
   have i1 : (k : Int) < (n : Int) := by omega
   have i2 : ((k : Int)).toNat = k := by omega
   go_wp2_with fail
   have hbp := below_new1 wr (.cells #[.int .i64 x, .int .i64 y] 36)
   have zp : (wr.alloc (.cells #[.int .i64 x, .int .i64 y] 36)).heap.size = wr.heap.size + 1 := by simp
   replace HB := Lib.hid (HB.out.trans (hbp.mono HB.out.size));have kp := Lib.hid (Lok.new wr 36 #[.int .i64 x, .int .i64 y]);clear hbp;generalize wr.alloc (.cells #[.int .i64 x, .int .i64 y] 36) = Vp at *;have hbq := below_new1 Vp (.cells #[.int .i64 x, .int .i64 y] 3);replace kp := Lib.hid (kp.out.keep hbq)
   have zq : (Vp.alloc (.cells #[.int .i64 x, .int .i64 y] 3)).heap.size = Vp.heap.size + 1 := by simp
   replace HB := Lib.hid (HB.out.trans (hbq.mono HB.out.size));have kq := Lib.hid (Lok.new Vp 3 #[.int .i64 x, .int .i64 y]);clear hbq;generalize Vp.alloc (.cells #[.int .i64 x, .int .i64 y] 3) = Vq at *;rw [zp] at kq zq;clear zp zq
   (((with_reducible refine (within_2 4096 (by omega) (by omega) x y _ _ _ kq.out).mono ?_); rintro e w1 ⟨rfl, hb1⟩); replace HB := Lib.hid (HB.out.trans (hb1.mono HB.out.size)); clear hb1)
   rw [show (sB 4096 x && sB 4096 y) = s2 x y from rfl]
   cases hn2 : s2 x y with
   | false =>
    have E := Lib.hid (NO.out hn2);clear NO YES hn2 c0 c1
    go_wp2
    go_ret
    exact ⟨by rw [E.out]; rfl, HB.out⟩
   | true =>
    have E := Lib.hid (YES.out hn2);clear NO YES hn2 c0 c1
    go_wp2
    go_roundw
    case rel => exact ⟨k + 1, by go_num, hlt, E.out, HB.out⟩
    case measure => simp [intOf]; omega
  ·obtain rfl : k = n := by omega
   go_wp2
   go_ret
   refine ⟨?_, HB.out⟩
   have e : aS2 F k = true := allB_yes HR.out
   rw [e]; rfl
set_option maxRecDepth 100000 in
set_option maxHeartbeats 1000000 in
theorem small3_any (A : Option Addr) (n c : Nat) (F : Nat → Nat → Int) (w : World) (hr : RowK w A n 3 F) (hn : n ≤ 9223372036854775807) :
  Calls Tryz.prog 92 #[.slice A n c] w fun e w' => e = .returned (.bool (aS3 F n)) ∧ Below w.heap.size w w' := by
 have R := Lib.hid hr;clear hr
 go_enter Tryz.func92, Tryz.ntmps92
 go_wp2_with fail
 go_loopw [7] (fun x wr => ∃ k : Nat, x = .int .i64 k ∧ k ≤ n ∧ (∀ j, j < k → s3 (F j 0) (F j 1) (F j 2) = true) ∧ Below w.heap.size w wr) (fun x _ => n - (intOf x).toNat)
 case atStart => exact ⟨0, rfl, Nat.zero_le _, fun j h => absurd h (by omega), by (repeat (first | exact Below.refl _ _ | assumption | refine Below.drew ?_ | refine below_drewN ?_ _ | refine Below.setCell ?_ (by first | omega | (simp; done) | (simp; omega)) _ | refine Below.alloc ?_ (by first | omega | (simp; done) | (simp; omega)) _))⟩
 case round =>
  obtain ⟨k, rfl, hk, hR, hB⟩ := hrel;have HB := Lib.hid hB;have HR := Lib.hid hR;clear hB hR
  by_cases hlt : k < n
  ·obtain ⟨b, o, rfl, hb, hc⟩ := (R.out.keep HB.out).at hlt
   have c0 := hc k hlt 0 (by omega);have c1 := hc k hlt 1 (by omega);have c2 := hc k hlt 2 (by omega);rw [Nat.add_zero] at c0;rw [← Nat.add_assoc] at c1 c2;have no : s3 (F k 0) (F k 1) (F k 2) = false → aS3 F n = false := allB_no (P := fun i => s3 (F i 0) (F i 1) (F i 2)) hlt
   have yes : s3 (F k 0) (F k 1) (F k 2) = true → ∀ j, j < k + 1 → s3 (F j 0) (F j 1) (F j 2) = true := fun q j hj => by
    by_cases e : j = k
    ·rw [e]; exact q
    ·exact HR.out j (by omega)
   generalize F k 0 = x at *;generalize F k 1 = y at *;generalize F k 2 = z at *;have NO := Lib.hid no;have YES := Lib.hid yes;clear no yes hc
   have i0 : (0 : Int) ≤ (k : Int) := by omega
   have i1 : (k : Int) < (n : Int) := by omega
   have i2 : ((k : Int)).toNat = k := by omega
   go_wp2_with fail
   have hbp := below_new1 wr (.cells #[.int .i64 x, .int .i64 y, .int .i64 z] 57)
   have zp : (wr.alloc (.cells #[.int .i64 x, .int .i64 y, .int .i64 z] 57)).heap.size = wr.heap.size + 1 := by simp
   replace HB := Lib.hid (HB.out.trans (hbp.mono HB.out.size));have kp := Lib.hid (Lok.new wr 57 #[.int .i64 x, .int .i64 y, .int .i64 z]);clear hbp;generalize wr.alloc (.cells #[.int .i64 x, .int .i64 y, .int .i64 z] 57) = Vp at *;have hbq := below_new1 Vp (.cells #[.int .i64 x, .int .i64 y, .int .i64 z] 3);replace kp := Lib.hid (kp.out.keep hbq)
   have zq : (Vp.alloc (.cells #[.int .i64 x, .int .i64 y, .int .i64 z] 3)).heap.size = Vp.heap.size + 1 := by simp
   replace HB := Lib.hid (HB.out.trans (hbq.mono HB.out.size));have kq := Lib.hid (Lok.new Vp 3 #[.int .i64 x, .int .i64 y, .int .i64 z]);clear hbq;generalize Vp.alloc (.cells #[.int .i64 x, .int .i64 y, .int .i64 z] 3) = Vq at *;rw [zp] at kq zq;clear zp zq
   (((with_reducible refine (within_3 16384 (by omega) (by omega) x y z _ _ _ kq.out).mono ?_); rintro e w1 ⟨rfl, hb1⟩); replace HB := Lib.hid (HB.out.trans (hb1.mono HB.out.size)); clear hb1)
   rw [show (sB 16384 x && sB 16384 y && sB 16384 z) = s3 x y z from rfl]
   cases hn2 : s3 x y z with
   | false =>
    have E := Lib.hid (NO.out hn2);clear NO YES hn2 c0 c1
    go_wp2
    go_ret
    exact ⟨by rw [E.out]; rfl, HB.out⟩
   | true =>
    have E := Lib.hid (YES.out hn2);clear NO YES hn2 c0 c1
    go_wp2
    go_roundw
    case rel => exact ⟨k + 1, by go_num, hlt, E.out, HB.out⟩
    case measure => simp [intOf]; omega
  ·obtain rfl : k = n := by omega
   go_wp2
   go_ret
   refine ⟨?_, HB.out⟩
   have e : aS3 F k = true := allB_yes HR.out
   rw [e]; rfl
theorem small2_3 (a1 a2 b1 b2 c1 c2 : Int) (u : Bool) (hu : (s2 a1 a2 && s2 b1 b2 && s2 c1 c2) = u) (g : Nat) (T : TypeId) (w : World) (h : Lok w g T #[.int .i64 a1, .int .i64 a2, .int .i64 b1, .int .i64 b2, .int .i64 c1, .int .i64 c2]) :
  Calls Tryz.prog 138 #[.slice (some ⟨g, 0, none⟩) 3 3] w fun e w' => e = .returned (.bool u) ∧ Below w.heap.size w w' := by
 have q := small2_any _ 3 3 _ w (rowK_ints (n := 3) (k := 2) [a1, a2, b1, b2, c1, c2] h rfl) (by omega);rw [show aS2 (rowOf 2 [a1, a2, b1, b2, c1, c2]) 3 = u from by rw [← hu]; simp [aS2, allB, rowOf]] at q
 exact q
theorem small3_3 (a1 a2 a3 b1 b2 b3 c1 c2 c3 : Int) (u : Bool) (hu : (s3 a1 a2 a3 && s3 b1 b2 b3 && s3 c1 c2 c3) = u) (g : Nat) (T : TypeId) (w : World) (h : Lok w g T #[.int .i64 a1, .int .i64 a2, .int .i64 a3, .int .i64 b1, .int .i64 b2, .int .i64 b3, .int .i64 c1, .int .i64 c2, .int .i64 c3]) :
  Calls Tryz.prog 92 #[.slice (some ⟨g, 0, none⟩) 3 3] w fun e w' => e = .returned (.bool u) ∧ Below w.heap.size w w' := by
 have q := small3_any _ 3 3 _ w (rowK_ints (n := 3) (k := 3) [a1, a2, a3, b1, b2, b3, c1, c2, c3] h rfl) (by omega);rw [show aS3 (rowOf 3 [a1, a2, a3, b1, b2, b3, c1, c2, c3]) 3 = u from by rw [← hu]; simp [aS3, allB, rowOf]] at q
 exact q
end Go.Proofs.YtcnbbanpnoigdaaGreat
namespace Go.Proofs.YtcnbbanpnoigdaaGreat
open Go.RowKit

set_option maxRecDepth 100000 in
set_option maxHeartbeats 1000000 in
theorem parts_any (x y z : Int) (w : World) :
  Calls Tryz.prog 95 #[.agg #[.int .i64 x, .int .i64 y, .int .i64 z]] w fun e w' => e = .returned (.agg #[.int .i64 x, .int .i64 y, .int .i64 z]) ∧ Below w.heap.size w w' := by
 go_enter Tryz.func95, Tryz.ntmps95
 go_wp2
 exact bodyPost_ret (v := .agg #[.int .i64 x, .int .i64 y, .int .i64 z]) (by simp [results, Tryz.results95, go_sem, *]) rfl ⟨rfl, by (repeat (first | exact Below.refl _ _ | assumption | refine Below.drew ?_ | refine below_drewN ?_ _ | refine Below.setCell ?_ (by first | omega | (simp; done) | (simp; omega)) _ | refine Below.alloc ?_ (by first | omega | (simp; done) | (simp; omega)) _))⟩

theorem cross_wraps {a b c d : Int} (ha : NR a) (hb : NR b) (hc : NR c) (hd : NR d) :
  IntKind.i64.wrap (a * d) = a * d ∧ IntKind.i64.wrap (b * c) = b * c ∧ IntKind.i64.wrap (a * d - b * c) = a * d - b * c := by
 have p := near_prod ha hd;have q := near_prod hb hc
 exact ⟨IntWalk.i64_in _ (by omega), IntWalk.i64_in _ (by omega), IntWalk.i64_in _ (by omega)⟩

set_option maxRecDepth 100000 in
set_option maxHeartbeats 1000000 in
theorem cross_any (a b c d : Int) (w : World) (h : n2 a b = true) (k : n2 c d = true) :
  Calls Tryz.prog 108 #[.agg #[.int .i64 a, .int .i64 b], .agg #[.int .i64 c, .int .i64 d]] w fun e w' => e = .returned (.int .i64 (a * d - b * c)) ∧ Below w.heap.size w w' := by
 obtain ⟨ha, hb⟩ := n2_iff.1 h;obtain ⟨hc, hd⟩ := n2_iff.1 k;obtain ⟨e1, e2, e3⟩ := cross_wraps ha hb hc hd;clear h k ha hb hc hd
 go_enter Tryz.func108, Tryz.ntmps108
 go_wp2
 go_ret
 exact ⟨rfl, by (repeat (first | exact Below.refl _ _ | assumption | refine Below.drew ?_ | refine below_drewN ?_ _ | refine Below.setCell ?_ (by first | omega | (simp; done) | (simp; omega)) _ | refine Below.alloc ?_ (by first | omega | (simp; done) | (simp; omega)) _))⟩

def pt (x y z : Int) (k : Nat) : Int := if k = 0 then x else if k = 1 then y else z
def dX (x y z : Int) (k : Nat) : Int := pt x y z ((k + 1) % 3)
def dY (x y z : Int) (k : Nat) : Int := pt x y z ((k + 2) % 3)

set_option maxRecDepth 100000 in
set_option maxHeartbeats 1000000 in
theorem drop_any (x y z : Int) (k : Nat) (w : World) (h : k < 3) :
  Calls Tryz.prog 77 #[.agg #[.int .i64 x, .int .i64 y, .int .i64 z], .int .i64 k] w fun e w' => e = .returned (.agg #[.int .i64 (dX x y z k), .int .i64 (dY x y z k)]) ∧ Below w.heap.size w w' := by
 have HB := Lib.hid (Below.refl w.heap.size w);have P := Lib.hid (fun W => parts_any x y z W)
 rcases show k = 0 ∨ k = 1 ∨ k = 2 by omega with rfl | rfl | rfl
 ·go_enter Tryz.func77, Tryz.ntmps77
  go_upto_region 1 with fail
  have hbx := below_new1 w (.cells #[.int .i64 x, .int .i64 y, .int .i64 z] 57)
  have zx : (w.alloc (.cells #[.int .i64 x, .int .i64 y, .int .i64 z] 57)).heap.size = w.heap.size + 1 := by simp
  have HB := Lib.hid hbx;have kx := Lib.hid (Lok.new w 57 #[.int .i64 x, .int .i64 y, .int .i64 z]);clear hbx;generalize w.alloc (.cells #[.int .i64 x, .int .i64 y, .int .i64 z] 57) = Vx at *;have hby := below_new1 Vx (.cells #[.int .i64 0, .int .i64 0] 36);replace kx := Lib.hid (kx.out.keep hby)
  have zy : (Vx.alloc (.cells #[.int .i64 0, .int .i64 0] 36)).heap.size = Vx.heap.size + 1 := by simp
  replace HB := Lib.hid (HB.out.trans (hby.mono HB.out.size));have ky := Lib.hid (Lok.new Vx 36 #[.int .i64 0, .int .i64 0]);clear hby;generalize Vx.alloc (.cells #[.int .i64 0, .int .i64 0] 36) = Vy at *;rw [zx] at ky;clear zx zy;have x0 := kx.out.cell (i := 0) rfl;have x1 := kx.out.cell (i := 1) rfl;have x2 := kx.out.cell (i := 2) rfl
  go_wp2_with fail
  clear x0 x1 x2;((with_reducible refine (P.out _).mono ?_); rintro e w1 ⟨rfl, hb1⟩);replace HB := Lib.hid (HB.out.trans (hb1.mono HB.out.size));replace ky := Lib.hid (ky.out.keep hb1);clear hb1
  go_wp2_with fail
  have hb1 := below_new1 w1 (.cells #[.int .i64 x, .int .i64 y, .int .i64 z] 112);replace HB := Lib.hid (HB.out.trans (hb1.mono HB.out.size));replace ky := Lib.hid (ky.out.keep hb1);have k1 := Lib.hid (Lok.new w1 112 #[.int .i64 x, .int .i64 y, .int .i64 z]);clear hb1;generalize w1.alloc (.cells #[.int .i64 x, .int .i64 y, .int .i64 z] 112) = V1 at *;generalize w1.heap.size = g1 at *;have c0 := k1.out.cell (i := 0) rfl;have c1 := k1.out.cell (i := 1) rfl;have c2 := k1.out.cell (i := 2) rfl;have y0 := ky.out.cell (i := 0) rfl;have y1 := ky.out.cell (i := 1) rfl;have f0 := ky.out.frozen 0;have f1 := ky.out.frozen 1
  go_wp2_with fail
  go_region
  go_wp2
  exact bodyPost_ret (v := .agg #[.int .i64 y, .int .i64 z]) (by simp [results, Tryz.results77, go_sem, y0, y1]) rfl ⟨rfl, below_drewN ((HB.out.setCell (by simp) _).setCell (by simp) _) 1⟩
 ·go_enter Tryz.func77, Tryz.ntmps77
  go_upto_region 1 with fail
  have hbx := below_new1 w (.cells #[.int .i64 x, .int .i64 y, .int .i64 z] 57)
  have zx : (w.alloc (.cells #[.int .i64 x, .int .i64 y, .int .i64 z] 57)).heap.size = w.heap.size + 1 := by simp
  have HB := Lib.hid hbx;have kx := Lib.hid (Lok.new w 57 #[.int .i64 x, .int .i64 y, .int .i64 z]);clear hbx;generalize w.alloc (.cells #[.int .i64 x, .int .i64 y, .int .i64 z] 57) = Vx at *;have hby := below_new1 Vx (.cells #[.int .i64 0, .int .i64 0] 36);replace kx := Lib.hid (kx.out.keep hby)
  have zy : (Vx.alloc (.cells #[.int .i64 0, .int .i64 0] 36)).heap.size = Vx.heap.size + 1 := by simp
  replace HB := Lib.hid (HB.out.trans (hby.mono HB.out.size));have ky := Lib.hid (Lok.new Vx 36 #[.int .i64 0, .int .i64 0]);clear hby;generalize Vx.alloc (.cells #[.int .i64 0, .int .i64 0] 36) = Vy at *;rw [zx] at ky;clear zx zy;have x0 := kx.out.cell (i := 0) rfl;have x1 := kx.out.cell (i := 1) rfl;have x2 := kx.out.cell (i := 2) rfl
  go_wp2_with fail
  clear x0 x1 x2;((with_reducible refine (P.out _).mono ?_); rintro e w1 ⟨rfl, hb1⟩);replace HB := Lib.hid (HB.out.trans (hb1.mono HB.out.size));replace ky := Lib.hid (ky.out.keep hb1);clear hb1
  go_wp2_with fail
  have hb1 := below_new1 w1 (.cells #[.int .i64 x, .int .i64 y, .int .i64 z] 112);replace HB := Lib.hid (HB.out.trans (hb1.mono HB.out.size));replace ky := Lib.hid (ky.out.keep hb1);have k1 := Lib.hid (Lok.new w1 112 #[.int .i64 x, .int .i64 y, .int .i64 z]);clear hb1;generalize w1.alloc (.cells #[.int .i64 x, .int .i64 y, .int .i64 z] 112) = V1 at *;generalize w1.heap.size = g1 at *;have c0 := k1.out.cell (i := 0) rfl;have c1 := k1.out.cell (i := 1) rfl;have c2 := k1.out.cell (i := 2) rfl;have y0 := ky.out.cell (i := 0) rfl;have y1 := ky.out.cell (i := 1) rfl;have f0 := ky.out.frozen 0;have f1 := ky.out.frozen 1
  go_wp2_with fail
  go_region
  go_wp2
  exact bodyPost_ret (v := .agg #[.int .i64 z, .int .i64 x]) (by simp [results, Tryz.results77, go_sem, y0, y1]) rfl ⟨rfl, below_drewN ((HB.out.setCell (by simp) _).setCell (by simp) _) 1⟩
 ·go_enter Tryz.func77, Tryz.ntmps77
  go_upto_region 1 with fail
  have hbx := below_new1 w (.cells #[.int .i64 x, .int .i64 y, .int .i64 z] 57)
  have zx : (w.alloc (.cells #[.int .i64 x, .int .i64 y, .int .i64 z] 57)).heap.size = w.heap.size + 1 := by simp
  have HB := Lib.hid hbx;have kx := Lib.hid (Lok.new w 57 #[.int .i64 x, .int .i64 y, .int .i64 z]);clear hbx;generalize w.alloc (.cells #[.int .i64 x, .int .i64 y, .int .i64 z] 57) = Vx at *;have hby := below_new1 Vx (.cells #[.int .i64 0, .int .i64 0] 36);replace kx := Lib.hid (kx.out.keep hby)
  have zy : (Vx.alloc (.cells #[.int .i64 0, .int .i64 0] 36)).heap.size = Vx.heap.size + 1 := by simp
  replace HB := Lib.hid (HB.out.trans (hby.mono HB.out.size));have ky := Lib.hid (Lok.new Vx 36 #[.int .i64 0, .int .i64 0]);clear hby;generalize Vx.alloc (.cells #[.int .i64 0, .int .i64 0] 36) = Vy at *;rw [zx] at ky;clear zx zy;have x0 := kx.out.cell (i := 0) rfl;have x1 := kx.out.cell (i := 1) rfl;have x2 := kx.out.cell (i := 2) rfl
  go_wp2_with fail
  clear x0 x1 x2;((with_reducible refine (P.out _).mono ?_); rintro e w1 ⟨rfl, hb1⟩);replace HB := Lib.hid (HB.out.trans (hb1.mono HB.out.size));replace ky := Lib.hid (ky.out.keep hb1);clear hb1
  go_wp2_with fail
  have hb1 := below_new1 w1 (.cells #[.int .i64 x, .int .i64 y, .int .i64 z] 112);replace HB := Lib.hid (HB.out.trans (hb1.mono HB.out.size));replace ky := Lib.hid (ky.out.keep hb1);have k1 := Lib.hid (Lok.new w1 112 #[.int .i64 x, .int .i64 y, .int .i64 z]);clear hb1;generalize w1.alloc (.cells #[.int .i64 x, .int .i64 y, .int .i64 z] 112) = V1 at *;generalize w1.heap.size = g1 at *;have c0 := k1.out.cell (i := 0) rfl;have c1 := k1.out.cell (i := 1) rfl;have c2 := k1.out.cell (i := 2) rfl;have y0 := ky.out.cell (i := 0) rfl;have y1 := ky.out.cell (i := 1) rfl;have f0 := ky.out.frozen 0;have f1 := ky.out.frozen 1
  go_wp2_with fail
  go_region
  go_wp2
  exact bodyPost_ret (v := .agg #[.int .i64 x, .int .i64 y]) (by simp [results, Tryz.results77, go_sem, y0, y1]) rfl ⟨rfl, below_drewN ((HB.out.setCell (by simp) _).setCell (by simp) _) 1⟩

theorem below_wrap {n : Int} (h : -9223372036854775808 ≤ n) (k : n ≤ 9223372036854775807) : (n = -9223372036854775808 ∧ IntKind.i64.wrap (-n) = n) ∨ IntKind.i64.wrap (-n) = -n := by
 by_cases e : n = -9223372036854775808
 ·exact .inl ⟨e, by rw [e]; decide⟩
 ·exact .inr (IntWalk.i64_in _ (by omega))
set_option maxRecDepth 100000 in
set_option maxHeartbeats 1000000 in
theorem below_any (n : Int) (w : World) (h : -9223372036854775808 ≤ n) (k : n ≤ 9223372036854775807) :
  Calls Tryz.prog 96 #[.int .i64 n] w fun e w' => e = .returned (.int .i64 (-(n.natAbs : Int))) ∧ Below w.heap.size w w' := by
 have e := below_wrap h k
 go_enter Tryz.func96, Tryz.ntmps96
 go_wp2
 go_ret
 have E : min n (IntKind.i64.wrap (-n)) = -(n.natAbs : Int) := by
  rcases e with ⟨e, f⟩ | f <;> rw [f] <;> omega
 rw [IntWalk.i64_left] at E
 exact ⟨congrArg (fun m : Int => Ending.returned (.int .i64 m)) E, by (repeat (first | exact Below.refl _ _ | assumption | refine Below.drew ?_ | refine below_drewN ?_ _ | refine Below.setCell ?_ (by first | omega | (simp; done) | (simp; omega)) _ | refine Below.alloc ?_ (by first | omega | (simp; done) | (simp; omega)) _))⟩
end Go.Proofs.YtcnbbanpnoigdaaGreat
namespace Go.Proofs.YtcnbbanpnoigdaaGreat
open Go.RowKit

def sF (b : Bool) (x y : Int) : Int := if b = true then x - y else 0
def rE (b : Bool) : Int := if b = true then 0 else 5
theorem sub_wrap {x y : Int} (h : NR x) (k : NR y) : IntKind.i64.wrap (x - y) = x - y := IntWalk.i64_in _ (by unfold NR at h k; omega)
theorem is2_b (a b c d : Int) (t : Bool) (ht : (n2 a b && n2 c d) = t) (g : Nat) (T : TypeId) (w : World) (h : Lok w g T #[.int .i64 a, .int .i64 b, .int .i64 c, .int .i64 d]) :
  Calls Tryz.prog 64 #[.slice (some ⟨g, 0, none⟩) 2 2] w fun e w' => e = .returned (.bool t) ∧ Below w.heap.size w w' := by
 rw [← ht]; exact is2_two a b c d g T w h
theorem is3_b (a b c d e f : Int) (t : Bool) (ht : (n3 a b c && n3 d e f) = t) (g : Nat) (T : TypeId) (w : World) (h : Lok w g T #[.int .i64 a, .int .i64 b, .int .i64 c, .int .i64 d, .int .i64 e, .int .i64 f]) :
  Calls Tryz.prog 63 #[.slice (some ⟨g, 0, none⟩) 2 2] w fun e' w' => e' = .returned (.bool t) ∧ Below w.heap.size w w' := by
 rw [← ht]; exact is3_two a b c d e f g T w h

set_option maxRecDepth 100000 in
set_option maxHeartbeats 1000000 in
theorem sub2_any (a b c d : Int) (w : World) :
  Calls Tryz.prog 140 #[.agg #[.int .i64 a, .int .i64 b], .agg #[.int .i64 c, .int .i64 d]] w fun e w' => e = .returned (.agg #[.int .i64 (sF (n2 a b && n2 c d) a c), .int .i64 (sF (n2 a b && n2 c d) b d)]) ∧ Below w.heap.size w w' := by
 have HB := Lib.hid (Below.refl w.heap.size w)
 cases ht : n2 a b && n2 c d with
 | false =>
  have I := Lib.hid (fun g T W h => is2_b a b c d false ht g T W h);rw [show sF false a c = 0 from rfl, show sF false b d = 0 from rfl];clear ht
  go_enter Tryz.func140, Tryz.ntmps140
  go_upto_region 1 with fail
  have hbx := below_new1 w (.cells #[.int .i64 a, .int .i64 b] 36)
  have zx : (w.alloc (.cells #[.int .i64 a, .int .i64 b] 36)).heap.size = w.heap.size + 1 := by simp
  have HB := Lib.hid hbx;have kx := Lib.hid (Lok.new w 36 #[.int .i64 a, .int .i64 b]);clear hbx;generalize w.alloc (.cells #[.int .i64 a, .int .i64 b] 36) = Vx at *;have hby := below_new1 Vx (.cells #[.int .i64 c, .int .i64 d] 36);replace kx := Lib.hid (kx.out.keep hby)
  have zy : (Vx.alloc (.cells #[.int .i64 c, .int .i64 d] 36)).heap.size = Vx.heap.size + 1 := by simp
  replace HB := Lib.hid (HB.out.trans (hby.mono HB.out.size));have ky := Lib.hid (Lok.new Vx 36 #[.int .i64 c, .int .i64 d]);clear hby;generalize Vx.alloc (.cells #[.int .i64 c, .int .i64 d] 36) = Vy at *;rw [zx] at ky zy;have hbz := below_new1 Vy (.cells #[.int .i64 0, .int .i64 0] 36);replace kx := Lib.hid (kx.out.keep hbz);replace ky := Lib.hid (ky.out.keep hbz)
  have zz : (Vy.alloc (.cells #[.int .i64 0, .int .i64 0] 36)).heap.size = Vy.heap.size + 1 := by simp
  replace HB := Lib.hid (HB.out.trans (hbz.mono HB.out.size));have kz := Lib.hid (Lok.new Vy 36 #[.int .i64 0, .int .i64 0]);clear hbz;generalize Vy.alloc (.cells #[.int .i64 0, .int .i64 0] 36) = Vz at *;rw [zy] at kz;clear zx zy zz;have x0 := kx.out.cell (i := 0) rfl;have x1 := kx.out.cell (i := 1) rfl;have y0 := ky.out.cell (i := 0) rfl;have y1 := ky.out.cell (i := 1) rfl
  go_wp2_with fail
  clear x0 x1 y0 y1;have hbr := below_new1 Vz (.cells #[.int .i64 a, .int .i64 b, .int .i64 c, .int .i64 d] 36);replace kz := Lib.hid (kz.out.keep hbr)
  have zr : (Vz.alloc (.cells #[.int .i64 a, .int .i64 b, .int .i64 c, .int .i64 d] 36)).heap.size = Vz.heap.size + 1 := by simp
  replace HB := Lib.hid (HB.out.trans (hbr.mono HB.out.size));have kr := Lib.hid (Lok.new Vz 36 #[.int .i64 a, .int .i64 b, .int .i64 c, .int .i64 d]);clear hbr;generalize Vz.alloc (.cells #[.int .i64 a, .int .i64 b, .int .i64 c, .int .i64 d] 36) = Vr at *;clear zr;generalize Vz.heap.size = gr at *
  (((with_reducible refine (I.out _ _ _ kr.out).mono ?_); rintro e w1 ⟨rfl, hb1⟩); replace HB := Lib.hid (HB.out.trans (hb1.mono HB.out.size)); replace kz := Lib.hid (kz.out.keep hb1); clear hb1)
  have z0 := kz.out.cell (i := 0) rfl;have z1 := kz.out.cell (i := 1) rfl;have f0 := kz.out.frozen 0;have f1 := kz.out.frozen 1
  go_wp2_with fail
  exact bodyPost_ret (v := .agg #[.int .i64 0, .int .i64 0]) (by simp [results, Tryz.results140, go_sem, z0, z1]) rfl ⟨rfl, (HB.out.setCell (by simp <;> omega) _).setCell (by simp <;> omega) _⟩
 | true =>
  have I := Lib.hid (fun g T W h => is2_b a b c d true ht g T W h);rw [show sF true a c = a - c from rfl, show sF true b d = b - d from rfl];rw [Bool.and_eq_true, n2_iff, n2_iff] at ht;have e1 := sub_wrap ht.1.1 ht.2.1;have e2 := sub_wrap ht.1.2 ht.2.2;clear ht
  go_enter Tryz.func140, Tryz.ntmps140
  go_upto_region 1 with fail
  have hbx := below_new1 w (.cells #[.int .i64 a, .int .i64 b] 36)
  have zx : (w.alloc (.cells #[.int .i64 a, .int .i64 b] 36)).heap.size = w.heap.size + 1 := by simp
  have HB := Lib.hid hbx;have kx := Lib.hid (Lok.new w 36 #[.int .i64 a, .int .i64 b]);clear hbx;generalize w.alloc (.cells #[.int .i64 a, .int .i64 b] 36) = Vx at *;have hby := below_new1 Vx (.cells #[.int .i64 c, .int .i64 d] 36);replace kx := Lib.hid (kx.out.keep hby)
  have zy : (Vx.alloc (.cells #[.int .i64 c, .int .i64 d] 36)).heap.size = Vx.heap.size + 1 := by simp
  replace HB := Lib.hid (HB.out.trans (hby.mono HB.out.size));have ky := Lib.hid (Lok.new Vx 36 #[.int .i64 c, .int .i64 d]);clear hby;generalize Vx.alloc (.cells #[.int .i64 c, .int .i64 d] 36) = Vy at *;rw [zx] at ky zy;have hbz := below_new1 Vy (.cells #[.int .i64 0, .int .i64 0] 36);replace kx := Lib.hid (kx.out.keep hbz);replace ky := Lib.hid (ky.out.keep hbz)
  have zz : (Vy.alloc (.cells #[.int .i64 0, .int .i64 0] 36)).heap.size = Vy.heap.size + 1 := by simp
  replace HB := Lib.hid (HB.out.trans (hbz.mono HB.out.size));have kz := Lib.hid (Lok.new Vy 36 #[.int .i64 0, .int .i64 0]);clear hbz;generalize Vy.alloc (.cells #[.int .i64 0, .int .i64 0] 36) = Vz at *;rw [zy] at kz;clear zx zy zz;have x0 := kx.out.cell (i := 0) rfl;have x1 := kx.out.cell (i := 1) rfl;have y0 := ky.out.cell (i := 0) rfl;have y1 := ky.out.cell (i := 1) rfl
  go_wp2_with fail
  clear x0 x1 y0 y1;have hbr := below_new1 Vz (.cells #[.int .i64 a, .int .i64 b, .int .i64 c, .int .i64 d] 36);replace kx := Lib.hid (kx.out.keep hbr);replace ky := Lib.hid (ky.out.keep hbr);replace kz := Lib.hid (kz.out.keep hbr)
  have zr : (Vz.alloc (.cells #[.int .i64 a, .int .i64 b, .int .i64 c, .int .i64 d] 36)).heap.size = Vz.heap.size + 1 := by simp
  replace HB := Lib.hid (HB.out.trans (hbr.mono HB.out.size));have kr := Lib.hid (Lok.new Vz 36 #[.int .i64 a, .int .i64 b, .int .i64 c, .int .i64 d]);clear hbr;generalize Vz.alloc (.cells #[.int .i64 a, .int .i64 b, .int .i64 c, .int .i64 d] 36) = Vr at *;clear zr;generalize Vz.heap.size = gr at *
  (((with_reducible refine (I.out _ _ _ kr.out).mono ?_); rintro e w1 ⟨rfl, hb1⟩); replace HB := Lib.hid (HB.out.trans (hb1.mono HB.out.size)); replace kx := Lib.hid (kx.out.keep hb1); replace ky := Lib.hid (ky.out.keep hb1); replace kz := Lib.hid (kz.out.keep hb1); clear hb1)
  have x0 := kx.out.cell (i := 0) rfl;have x1 := kx.out.cell (i := 1) rfl;have y0 := ky.out.cell (i := 0) rfl;have y1 := ky.out.cell (i := 1) rfl;have z0 := kz.out.cell (i := 0) rfl;have z1 := kz.out.cell (i := 1) rfl;have f0 := kz.out.frozen 0;have f1 := kz.out.frozen 1
  go_wp2_with fail
  exact bodyPost_ret (v := .agg #[.int .i64 (a - c), .int .i64 (b - d)]) (by simp [results, Tryz.results140, go_sem, z0, z1]) rfl ⟨rfl, (HB.out.setCell (by simp <;> omega) _).setCell (by simp <;> omega) _⟩

set_option maxRecDepth 100000 in
set_option maxHeartbeats 1000000 in
theorem sub3_any (a b c d e f : Int) (w : World) :
  Calls Tryz.prog 94 #[.agg #[.int .i64 a, .int .i64 b, .int .i64 c], .agg #[.int .i64 d, .int .i64 e, .int .i64 f]] w fun e' w' => e' = .returned (.agg #[.int .i64 (sF (n3 a b c && n3 d e f) a d), .int .i64 (sF (n3 a b c && n3 d e f) b e), .int .i64 (sF (n3 a b c && n3 d e f) c f)]) ∧ Below w.heap.size w w' := by
 have HB := Lib.hid (Below.refl w.heap.size w)
 cases ht : n3 a b c && n3 d e f with
 | false =>
  have I := Lib.hid (fun g T W h => is3_b a b c d e f false ht g T W h);rw [show sF false a d = 0 from rfl, show sF false b e = 0 from rfl, show sF false c f = 0 from rfl];clear ht
  go_enter Tryz.func94, Tryz.ntmps94
  go_upto_region 1 with fail
  have hbx := below_new1 w (.cells #[.int .i64 a, .int .i64 b, .int .i64 c] 57)
  have zx : (w.alloc (.cells #[.int .i64 a, .int .i64 b, .int .i64 c] 57)).heap.size = w.heap.size + 1 := by simp
  have HB := Lib.hid hbx;have kx := Lib.hid (Lok.new w 57 #[.int .i64 a, .int .i64 b, .int .i64 c]);clear hbx;generalize w.alloc (.cells #[.int .i64 a, .int .i64 b, .int .i64 c] 57) = Vx at *;have hby := below_new1 Vx (.cells #[.int .i64 d, .int .i64 e, .int .i64 f] 57);replace kx := Lib.hid (kx.out.keep hby)
  have zy : (Vx.alloc (.cells #[.int .i64 d, .int .i64 e, .int .i64 f] 57)).heap.size = Vx.heap.size + 1 := by simp
  replace HB := Lib.hid (HB.out.trans (hby.mono HB.out.size));have ky := Lib.hid (Lok.new Vx 57 #[.int .i64 d, .int .i64 e, .int .i64 f]);clear hby;generalize Vx.alloc (.cells #[.int .i64 d, .int .i64 e, .int .i64 f] 57) = Vy at *;rw [zx] at ky zy;have hbz := below_new1 Vy (.cells #[.int .i64 0, .int .i64 0, .int .i64 0] 57);replace kx := Lib.hid (kx.out.keep hbz);replace ky := Lib.hid (ky.out.keep hbz)
  have zz : (Vy.alloc (.cells #[.int .i64 0, .int .i64 0, .int .i64 0] 57)).heap.size = Vy.heap.size + 1 := by simp
  replace HB := Lib.hid (HB.out.trans (hbz.mono HB.out.size));have kz := Lib.hid (Lok.new Vy 57 #[.int .i64 0, .int .i64 0, .int .i64 0]);clear hbz;generalize Vy.alloc (.cells #[.int .i64 0, .int .i64 0, .int .i64 0] 57) = Vz at *;rw [zy] at kz;clear zx zy zz;have x0 := kx.out.cell (i := 0) rfl;have x1 := kx.out.cell (i := 1) rfl;have x2 := kx.out.cell (i := 2) rfl;have y0 := ky.out.cell (i := 0) rfl;have y1 := ky.out.cell (i := 1) rfl;have y2 := ky.out.cell (i := 2) rfl
  go_wp2_with fail
  clear x0 x1 x2 y0 y1 y2;have hbr := below_new1 Vz (.cells #[.int .i64 a, .int .i64 b, .int .i64 c, .int .i64 d, .int .i64 e, .int .i64 f] 57);replace kz := Lib.hid (kz.out.keep hbr)
  have zr : (Vz.alloc (.cells #[.int .i64 a, .int .i64 b, .int .i64 c, .int .i64 d, .int .i64 e, .int .i64 f] 57)).heap.size = Vz.heap.size + 1 := by simp
  replace HB := Lib.hid (HB.out.trans (hbr.mono HB.out.size));have kr := Lib.hid (Lok.new Vz 57 #[.int .i64 a, .int .i64 b, .int .i64 c, .int .i64 d, .int .i64 e, .int .i64 f]);clear hbr;generalize Vz.alloc (.cells #[.int .i64 a, .int .i64 b, .int .i64 c, .int .i64 d, .int .i64 e, .int .i64 f] 57) = Vr at *;clear zr;generalize Vz.heap.size = gr at *
  (((with_reducible refine (I.out _ _ _ kr.out).mono ?_); rintro e w1 ⟨rfl, hb1⟩); replace HB := Lib.hid (HB.out.trans (hb1.mono HB.out.size)); replace kz := Lib.hid (kz.out.keep hb1); clear hb1)
  have z0 := kz.out.cell (i := 0) rfl;have z1 := kz.out.cell (i := 1) rfl;have z2 := kz.out.cell (i := 2) rfl;have f0 := kz.out.frozen 0;have f1 := kz.out.frozen 1;have f2 := kz.out.frozen 2
  go_wp2_with fail
  exact bodyPost_ret (v := .agg #[.int .i64 0, .int .i64 0, .int .i64 0]) (by simp [results, Tryz.results94, go_sem, z0, z1, z2]) rfl ⟨rfl, ((HB.out.setCell (by simp <;> omega) _).setCell (by simp <;> omega) _).setCell (by simp <;> omega) _⟩
 | true =>
  have I := Lib.hid (fun g T W h => is3_b a b c d e f true ht g T W h);rw [show sF true a d = a - d from rfl, show sF true b e = b - e from rfl, show sF true c f = c - f from rfl];rw [Bool.and_eq_true, n3_iff, n3_iff] at ht;have e1 := sub_wrap ht.1.1 ht.2.1;have e2 := sub_wrap ht.1.2.1 ht.2.2.1;have e3 := sub_wrap ht.1.2.2 ht.2.2.2;clear ht
  go_enter Tryz.func94, Tryz.ntmps94
  go_upto_region 1 with fail
  have hbx := below_new1 w (.cells #[.int .i64 a, .int .i64 b, .int .i64 c] 57)
  have zx : (w.alloc (.cells #[.int .i64 a, .int .i64 b, .int .i64 c] 57)).heap.size = w.heap.size + 1 := by simp
  have HB := Lib.hid hbx;have kx := Lib.hid (Lok.new w 57 #[.int .i64 a, .int .i64 b, .int .i64 c]);clear hbx;generalize w.alloc (.cells #[.int .i64 a, .int .i64 b, .int .i64 c] 57) = Vx at *;have hby := below_new1 Vx (.cells #[.int .i64 d, .int .i64 e, .int .i64 f] 57);replace kx := Lib.hid (kx.out.keep hby)
  have zy : (Vx.alloc (.cells #[.int .i64 d, .int .i64 e, .int .i64 f] 57)).heap.size = Vx.heap.size + 1 := by simp
  replace HB := Lib.hid (HB.out.trans (hby.mono HB.out.size));have ky := Lib.hid (Lok.new Vx 57 #[.int .i64 d, .int .i64 e, .int .i64 f]);clear hby;generalize Vx.alloc (.cells #[.int .i64 d, .int .i64 e, .int .i64 f] 57) = Vy at *;rw [zx] at ky zy;have hbz := below_new1 Vy (.cells #[.int .i64 0, .int .i64 0, .int .i64 0] 57);replace kx := Lib.hid (kx.out.keep hbz);replace ky := Lib.hid (ky.out.keep hbz)
  have zz : (Vy.alloc (.cells #[.int .i64 0, .int .i64 0, .int .i64 0] 57)).heap.size = Vy.heap.size + 1 := by simp
  replace HB := Lib.hid (HB.out.trans (hbz.mono HB.out.size));have kz := Lib.hid (Lok.new Vy 57 #[.int .i64 0, .int .i64 0, .int .i64 0]);clear hbz;generalize Vy.alloc (.cells #[.int .i64 0, .int .i64 0, .int .i64 0] 57) = Vz at *;rw [zy] at kz;clear zx zy zz;have x0 := kx.out.cell (i := 0) rfl;have x1 := kx.out.cell (i := 1) rfl;have x2 := kx.out.cell (i := 2) rfl;have y0 := ky.out.cell (i := 0) rfl;have y1 := ky.out.cell (i := 1) rfl;have y2 := ky.out.cell (i := 2) rfl
  go_wp2_with fail
  clear x0 x1 x2 y0 y1 y2;have hbr := below_new1 Vz (.cells #[.int .i64 a, .int .i64 b, .int .i64 c, .int .i64 d, .int .i64 e, .int .i64 f] 57);replace kx := Lib.hid (kx.out.keep hbr);replace ky := Lib.hid (ky.out.keep hbr);replace kz := Lib.hid (kz.out.keep hbr)
  have zr : (Vz.alloc (.cells #[.int .i64 a, .int .i64 b, .int .i64 c, .int .i64 d, .int .i64 e, .int .i64 f] 57)).heap.size = Vz.heap.size + 1 := by simp
  replace HB := Lib.hid (HB.out.trans (hbr.mono HB.out.size));have kr := Lib.hid (Lok.new Vz 57 #[.int .i64 a, .int .i64 b, .int .i64 c, .int .i64 d, .int .i64 e, .int .i64 f]);clear hbr;generalize Vz.alloc (.cells #[.int .i64 a, .int .i64 b, .int .i64 c, .int .i64 d, .int .i64 e, .int .i64 f] 57) = Vr at *;clear zr;generalize Vz.heap.size = gr at *
  (((with_reducible refine (I.out _ _ _ kr.out).mono ?_); rintro e w1 ⟨rfl, hb1⟩); replace HB := Lib.hid (HB.out.trans (hb1.mono HB.out.size)); replace kx := Lib.hid (kx.out.keep hb1); replace ky := Lib.hid (ky.out.keep hb1); replace kz := Lib.hid (kz.out.keep hb1); clear hb1)
  have x0 := kx.out.cell (i := 0) rfl;have x1 := kx.out.cell (i := 1) rfl;have x2 := kx.out.cell (i := 2) rfl;have y0 := ky.out.cell (i := 0) rfl;have y1 := ky.out.cell (i := 1) rfl;have y2 := ky.out.cell (i := 2) rfl;have z0 := kz.out.cell (i := 0) rfl;have z1 := kz.out.cell (i := 1) rfl;have z2 := kz.out.cell (i := 2) rfl;have f0 := kz.out.frozen 0;have f1 := kz.out.frozen 1;have f2 := kz.out.frozen 2
  go_wp2_with fail
  exact bodyPost_ret (v := .agg #[.int .i64 (a - d), .int .i64 (b - e), .int .i64 (c - f)]) (by simp [results, Tryz.results94, go_sem, z0, z1, z2]) rfl ⟨rfl, ((HB.out.setCell (by simp <;> omega) _).setCell (by simp <;> omega) _).setCell (by simp <;> omega) _⟩

def xF (t : Bool) (a b c d : Int) : Int := if t = true then a * d - b * c else 0
set_option maxRecDepth 100000 in
set_option maxHeartbeats 1000000 in
theorem cross2_any (a b c d : Int) (w : World) :
  Calls Tryz.prog 139 #[.agg #[.int .i64 a, .int .i64 b], .agg #[.int .i64 c, .int .i64 d]] w fun e w' => e = .returned (.tuple #[.int .i64 (xF (n2 a b && n2 c d) a b c d), .int .i64 (rE (n2 a b && n2 c d))]) ∧ Below w.heap.size w w' := by
 have HB := Lib.hid (Below.refl w.heap.size w)
 cases ht : n2 a b && n2 c d with
 | false =>
  have I := Lib.hid (fun g T W h => is2_b a b c d false ht g T W h);rw [show xF false a b c d = 0 from rfl, show rE false = 5 from rfl];clear ht
  go_enter Tryz.func139, Tryz.ntmps139
  go_upto_region 1 with fail
  have hbx := below_new1 w (.cells #[.int .i64 a, .int .i64 b] 36)
  have zx : (w.alloc (.cells #[.int .i64 a, .int .i64 b] 36)).heap.size = w.heap.size + 1 := by simp
  have HB := Lib.hid hbx;have kx := Lib.hid (Lok.new w 36 #[.int .i64 a, .int .i64 b]);clear hbx;generalize w.alloc (.cells #[.int .i64 a, .int .i64 b] 36) = Vx at *;have hby := below_new1 Vx (.cells #[.int .i64 c, .int .i64 d] 36);replace kx := Lib.hid (kx.out.keep hby)
  have zy : (Vx.alloc (.cells #[.int .i64 c, .int .i64 d] 36)).heap.size = Vx.heap.size + 1 := by simp
  replace HB := Lib.hid (HB.out.trans (hby.mono HB.out.size));have ky := Lib.hid (Lok.new Vx 36 #[.int .i64 c, .int .i64 d]);clear hby;generalize Vx.alloc (.cells #[.int .i64 c, .int .i64 d] 36) = Vy at *;rw [zx] at ky;clear zx zy;have x0 := kx.out.cell (i := 0) rfl;have x1 := kx.out.cell (i := 1) rfl;have y0 := ky.out.cell (i := 0) rfl;have y1 := ky.out.cell (i := 1) rfl
  go_wp2_with fail
  clear x0 x1 y0 y1;have hbr := below_new1 Vy (.cells #[.int .i64 a, .int .i64 b, .int .i64 c, .int .i64 d] 36)
  have zr : (Vy.alloc (.cells #[.int .i64 a, .int .i64 b, .int .i64 c, .int .i64 d] 36)).heap.size = Vy.heap.size + 1 := by simp
  replace HB := Lib.hid (HB.out.trans (hbr.mono HB.out.size));have kr := Lib.hid (Lok.new Vy 36 #[.int .i64 a, .int .i64 b, .int .i64 c, .int .i64 d]);clear hbr;generalize Vy.alloc (.cells #[.int .i64 a, .int .i64 b, .int .i64 c, .int .i64 d] 36) = Vr at *;clear zr;generalize Vy.heap.size = gr at *
  (((with_reducible refine (I.out _ _ _ kr.out).mono ?_); rintro e w1 ⟨rfl, hb1⟩); replace HB := Lib.hid (HB.out.trans (hb1.mono HB.out.size)); clear hb1)
  go_wp2
  go_ret2
  exact ⟨rfl, HB.out⟩
 | true =>
  have I := Lib.hid (fun g T W h => is2_b a b c d true ht g T W h);rw [Bool.and_eq_true] at ht;have C := Lib.hid (fun W => cross_any a b c d W ht.1 ht.2);rw [show xF true a b c d = a * d - b * c from rfl, show rE true = 0 from rfl];clear ht;generalize a * d - b * c = X at *
  go_enter Tryz.func139, Tryz.ntmps139
  go_upto_region 1 with fail
  have hbx := below_new1 w (.cells #[.int .i64 a, .int .i64 b] 36)
  have zx : (w.alloc (.cells #[.int .i64 a, .int .i64 b] 36)).heap.size = w.heap.size + 1 := by simp
  have HB := Lib.hid hbx;have kx := Lib.hid (Lok.new w 36 #[.int .i64 a, .int .i64 b]);clear hbx;generalize w.alloc (.cells #[.int .i64 a, .int .i64 b] 36) = Vx at *;have hby := below_new1 Vx (.cells #[.int .i64 c, .int .i64 d] 36);replace kx := Lib.hid (kx.out.keep hby)
  have zy : (Vx.alloc (.cells #[.int .i64 c, .int .i64 d] 36)).heap.size = Vx.heap.size + 1 := by simp
  replace HB := Lib.hid (HB.out.trans (hby.mono HB.out.size));have ky := Lib.hid (Lok.new Vx 36 #[.int .i64 c, .int .i64 d]);clear hby;generalize Vx.alloc (.cells #[.int .i64 c, .int .i64 d] 36) = Vy at *;rw [zx] at ky;clear zx zy;have x0 := kx.out.cell (i := 0) rfl;have x1 := kx.out.cell (i := 1) rfl;have y0 := ky.out.cell (i := 0) rfl;have y1 := ky.out.cell (i := 1) rfl
  go_wp2_with fail
  clear x0 x1 y0 y1;have hbr := below_new1 Vy (.cells #[.int .i64 a, .int .i64 b, .int .i64 c, .int .i64 d] 36);replace kx := Lib.hid (kx.out.keep hbr);replace ky := Lib.hid (ky.out.keep hbr)
  have zr : (Vy.alloc (.cells #[.int .i64 a, .int .i64 b, .int .i64 c, .int .i64 d] 36)).heap.size = Vy.heap.size + 1 := by simp
  replace HB := Lib.hid (HB.out.trans (hbr.mono HB.out.size));have kr := Lib.hid (Lok.new Vy 36 #[.int .i64 a, .int .i64 b, .int .i64 c, .int .i64 d]);clear hbr;generalize Vy.alloc (.cells #[.int .i64 a, .int .i64 b, .int .i64 c, .int .i64 d] 36) = Vr at *;clear zr;generalize Vy.heap.size = gr at *
  (((with_reducible refine (I.out _ _ _ kr.out).mono ?_); rintro e w1 ⟨rfl, hb1⟩); replace HB := Lib.hid (HB.out.trans (hb1.mono HB.out.size)); replace kx := Lib.hid (kx.out.keep hb1); replace ky := Lib.hid (ky.out.keep hb1); clear hb1)
  have x0 := kx.out.cell (i := 0) rfl;have x1 := kx.out.cell (i := 1) rfl;have y0 := ky.out.cell (i := 0) rfl;have y1 := ky.out.cell (i := 1) rfl
  go_wp2_with fail
  clear x0 x1 y0 y1
  (((with_reducible refine (C.out _).mono ?_); rintro e w2 ⟨rfl, hb2⟩); replace HB := Lib.hid (HB.out.trans (hb2.mono HB.out.size)); clear hb2)
  go_wp2
  go_ret2
  exact ⟨rfl, HB.out⟩

def axB (k : Int) : Prop := 0 ≤ k ∧ k ≤ 2
instance (k : Int) : Decidable (axB k) := by unfold axB; infer_instance
def dpX (x y z k : Int) : Int := if axB k then dX x y z k.toNat else 0
def dpY (x y z k : Int) : Int := if axB k then dY x y z k.toNat else 0
def dpE (k : Int) : Int := if axB k then 0 else 1
set_option maxRecDepth 100000 in
set_option maxHeartbeats 1000000 in
theorem vdrop_any (x y z k : Int) (w : World) :
  Calls Tryz.prog 54 #[.agg #[.int .i64 x, .int .i64 y, .int .i64 z], .int .i64 k] w fun e w' => e = .returned (.tuple #[.agg #[.int .i64 (dpX x y z k), .int .i64 (dpY x y z k)], .int .i64 (dpE k)]) ∧ Below w.heap.size w w' := by
 have HB := Lib.hid (Below.refl w.heap.size w)
 by_cases h : axB k
 ·have D := Lib.hid (fun W => drop_any x y z k.toNat W (by unfold axB at h; omega))
  rw [show dpX x y z k = dX x y z k.toNat from if_pos h, show dpY x y z k = dY x y z k.toNat from if_pos h, show dpE k = 0 from if_pos h];unfold axB at h;rw [show (k.toNat : Int) = k by omega] at D;have d1 : decide (k < 0) = false := decide_eq_false (by omega);have d2 : decide (3 ≤ k) = false := decide_eq_false (by omega);clear h;generalize dX x y z k.toNat = p at *;generalize dY x y z k.toNat = q at *
  go_enter Tryz.func54, Tryz.ntmps54
  go_upto_region 1 with fail
  have hbx := below_new1 w (.cells #[.int .i64 x, .int .i64 y, .int .i64 z] 57)
  have zx : (w.alloc (.cells #[.int .i64 x, .int .i64 y, .int .i64 z] 57)).heap.size = w.heap.size + 1 := by simp
  have HB := Lib.hid hbx;have kx := Lib.hid (Lok.new w 57 #[.int .i64 x, .int .i64 y, .int .i64 z]);clear hbx;generalize w.alloc (.cells #[.int .i64 x, .int .i64 y, .int .i64 z] 57) = Vx at *;have hby := below_new1 Vx (.cells #[.int .i64 0, .int .i64 0] 36);replace kx := Lib.hid (kx.out.keep hby)
  have zy : (Vx.alloc (.cells #[.int .i64 0, .int .i64 0] 36)).heap.size = Vx.heap.size + 1 := by simp
  replace HB := Lib.hid (HB.out.trans (hby.mono HB.out.size));have ky := Lib.hid (Lok.new Vx 36 #[.int .i64 0, .int .i64 0]);clear hby;generalize Vx.alloc (.cells #[.int .i64 0, .int .i64 0] 36) = Vy at *;rw [zx] at ky;clear zx zy;have x0 := kx.out.cell (i := 0) rfl;have x1 := kx.out.cell (i := 1) rfl;have x2 := kx.out.cell (i := 2) rfl
  go_wp2_with fail
  clear x0 x1 x2
  (((with_reducible refine (D.out _).mono ?_); rintro e w1 ⟨rfl, hb1⟩); replace HB := Lib.hid (HB.out.trans (hb1.mono HB.out.size)); replace ky := Lib.hid (ky.out.keep hb1); clear hb1)
  have y0 := ky.out.cell (i := 0) rfl;have y1 := ky.out.cell (i := 1) rfl;have f0 := ky.out.frozen 0;have f1 := ky.out.frozen 1
  go_wp2_with fail
  exact bodyPost_ret (v := .tuple #[.agg #[.int .i64 p, .int .i64 q], .int .i64 0]) (by simp [results, Tryz.results54, go_sem, y0, y1]) rfl ⟨rfl, (HB.out.setCell (by simp <;> omega) _).setCell (by simp <;> omega) _⟩
 ·rw [show dpX x y z k = 0 from if_neg h, show dpY x y z k = 0 from if_neg h, show dpE k = 1 from if_neg h]
  unfold axB at h
  by_cases h1 : k < 0
  ·have d1 : decide (k < 0) = true := decide_eq_true h1
   clear h h1
   go_enter Tryz.func54, Tryz.ntmps54
   go_upto_region 1 with fail
   have hbx := below_new1 w (.cells #[.int .i64 x, .int .i64 y, .int .i64 z] 57)
   have zx : (w.alloc (.cells #[.int .i64 x, .int .i64 y, .int .i64 z] 57)).heap.size = w.heap.size + 1 := by simp
   have HB := Lib.hid hbx;have kx := Lib.hid (Lok.new w 57 #[.int .i64 x, .int .i64 y, .int .i64 z]);clear hbx;generalize w.alloc (.cells #[.int .i64 x, .int .i64 y, .int .i64 z] 57) = Vx at *;have hby := below_new1 Vx (.cells #[.int .i64 0, .int .i64 0] 36);replace kx := Lib.hid (kx.out.keep hby)
   have zy : (Vx.alloc (.cells #[.int .i64 0, .int .i64 0] 36)).heap.size = Vx.heap.size + 1 := by simp
   replace HB := Lib.hid (HB.out.trans (hby.mono HB.out.size));have ky := Lib.hid (Lok.new Vx 36 #[.int .i64 0, .int .i64 0]);clear hby;generalize Vx.alloc (.cells #[.int .i64 0, .int .i64 0] 36) = Vy at *;rw [zx] at ky;clear zx zy;have y0 := ky.out.cell (i := 0) rfl;have y1 := ky.out.cell (i := 1) rfl;have f0 := ky.out.frozen 0;have f1 := ky.out.frozen 1
   go_wp2_with fail
   exact bodyPost_ret (v := .tuple #[.agg #[.int .i64 0, .int .i64 0], .int .i64 1]) (by simp [results, Tryz.results54, go_sem, y0, y1]) rfl ⟨rfl, (HB.out.setCell (by simp <;> omega) _).setCell (by simp <;> omega) _⟩
  ·have d1 : decide (k < 0) = false := decide_eq_false h1
   have d2 : decide (3 ≤ k) = true := decide_eq_true (by omega);clear h h1
   go_enter Tryz.func54, Tryz.ntmps54
   go_upto_region 1 with fail
   have hbx := below_new1 w (.cells #[.int .i64 x, .int .i64 y, .int .i64 z] 57)
   have zx : (w.alloc (.cells #[.int .i64 x, .int .i64 y, .int .i64 z] 57)).heap.size = w.heap.size + 1 := by simp
   have HB := Lib.hid hbx;have kx := Lib.hid (Lok.new w 57 #[.int .i64 x, .int .i64 y, .int .i64 z]);clear hbx;generalize w.alloc (.cells #[.int .i64 x, .int .i64 y, .int .i64 z] 57) = Vx at *;have hby := below_new1 Vx (.cells #[.int .i64 0, .int .i64 0] 36);replace kx := Lib.hid (kx.out.keep hby)
   have zy : (Vx.alloc (.cells #[.int .i64 0, .int .i64 0] 36)).heap.size = Vx.heap.size + 1 := by simp
   replace HB := Lib.hid (HB.out.trans (hby.mono HB.out.size));have ky := Lib.hid (Lok.new Vx 36 #[.int .i64 0, .int .i64 0]);clear hby;generalize Vx.alloc (.cells #[.int .i64 0, .int .i64 0] 36) = Vy at *;rw [zx] at ky;clear zx zy;have y0 := ky.out.cell (i := 0) rfl;have y1 := ky.out.cell (i := 1) rfl;have f0 := ky.out.frozen 0;have f1 := ky.out.frozen 1
   go_wp2_with fail
   exact bodyPost_ret (v := .tuple #[.agg #[.int .i64 0, .int .i64 0], .int .i64 1]) (by simp [results, Tryz.results54, go_sem, y0, y1]) rfl ⟨rfl, (HB.out.setCell (by simp <;> omega) _).setCell (by simp <;> omega) _⟩
end Go.Proofs.YtcnbbanpnoigdaaGreat
namespace Go.Proofs.YtcnbbanpnoigdaaGreat
open Go.RowKit

def dS (a b c d e f : Int) : Nat → Int
 | 0 => 0
 | k + 1 => dS a b c d e f k + pt a b c k * pt d e f k
def dF (t : Bool) (a b c d e f : Int) : Int := if t = true then a * d + b * e + c * f else 0
theorem pt_near {a b c : Int} (ha : NR a) (hb : NR b) (hc : NR c) (k : Nat) : NR (pt a b c k) := by
 unfold pt; split
 ·exact ha
 ·split
  ·exact hb
  ·exact hc
theorem pt_at (a b c : Int) {k : Nat} (h : k < 3) : (#[Value.int .i64 a, Value.int .i64 b, Value.int .i64 c] : Array Value)[k]? = some (.int .i64 (pt a b c k)) := by
 rcases show k = 0 ∨ k = 1 ∨ k = 2 by omega with rfl | rfl | rfl <;> rfl

end Go.Proofs.YtcnbbanpnoigdaaGreat
