import Derived.Test.YtcnbbanpnoigdaaGreatBase
import Derived.Test.YtcnbbanpnoigdaaGreatHc
import Derived.Deep.DrawnRows
import Derived.Deep.Cut
import Derived.Lib.MinMax
namespace Go.Proofs.YtcnbbanpnoigdaaGreat
open Go.RowKit

theorem isNaN_any (n : Int) (w : World) :
  Calls Tryz.prog 100 #[.int .i64 n] w fun e w' => e = .returned (.bool false) ∧ Below w.heap.size w w' := by
 go_enter Tryz.func100, Tryz.ntmps100
 go_wp2
 go_ret
 exact ⟨by simp, by (repeat (first | exact Below.refl _ _ | assumption | refine Below.drew ?_ | refine below_drewN ?_ _ | refine Below.setCell ?_ (by first | omega | (simp; done) | (simp; omega)) _ | refine Below.alloc ?_ (by first | omega | (simp; done) | (simp; omega)) _))⟩
set_option maxHeartbeats 400000 in
theorem compare_int (x y : Int) (w : World) :
  Calls Tryz.prog 82 #[.int .i64 x, .int .i64 y] w fun e w' => e = .returned (.int .i64 (ordI x y)) ∧ Below w.heap.size w w' := by
 rcases ordI_ways x y with ⟨h, e⟩ | ⟨h, e⟩ | ⟨h, e⟩ <;> rw [e] <;> clear e
 ·have d1 : decide (x < y) = true := decide_eq_true h
  go_enter Tryz.func82, Tryz.ntmps82
  go_wp2_with fail
  (refine (isNaN_any _ _).mono ?_; rintro e w1 ⟨rfl, hb1⟩; have hB1 : Below w.heap.size w w1 := (by refine Below.trans ?_ (hb1.mono (by first | omega | (simp; done) | (simp; omega))); (repeat (first | exact Below.refl _ _ | assumption | refine Below.drew ?_ | refine below_drewN ?_ _ | refine Below.setCell ?_ (by first | omega | (simp; done) | (simp; omega)) _ | refine Below.alloc ?_ (by first | omega | (simp; done) | (simp; omega)) _))); have hsz1 : w.heap.size ≤ w1.heap.size := hB1.size)
  go_wp2_with fail
  (refine (isNaN_any _ _).mono ?_; rintro e w2 ⟨rfl, hb2⟩; have hB2 : Below w.heap.size w w2 := (by refine Below.trans ?_ (hb2.mono (by first | omega | (simp; done) | (simp; omega))); (repeat (first | exact Below.refl _ _ | assumption | refine Below.drew ?_ | refine below_drewN ?_ _ | refine Below.setCell ?_ (by first | omega | (simp; done) | (simp; omega)) _ | refine Below.alloc ?_ (by first | omega | (simp; done) | (simp; omega)) _))); have hsz2 : w.heap.size ≤ w2.heap.size := hB2.size)
  go_wp2
  go_ret
  exact ⟨rfl, by (repeat (first | exact Below.refl _ _ | assumption | refine Below.drew ?_ | refine below_drewN ?_ _ | refine Below.setCell ?_ (by first | omega | (simp; done) | (simp; omega)) _ | refine Below.alloc ?_ (by first | omega | (simp; done) | (simp; omega)) _))⟩
 ·have d1 : decide (x < y) = false := decide_eq_false (by omega)
  have d2 : decide (y < x) = false := decide_eq_false (by omega)
  go_enter Tryz.func82, Tryz.ntmps82
  go_wp2_with fail
  (refine (isNaN_any _ _).mono ?_; rintro e w1 ⟨rfl, hb1⟩; have hB1 : Below w.heap.size w w1 := (by refine Below.trans ?_ (hb1.mono (by first | omega | (simp; done) | (simp; omega))); (repeat (first | exact Below.refl _ _ | assumption | refine Below.drew ?_ | refine below_drewN ?_ _ | refine Below.setCell ?_ (by first | omega | (simp; done) | (simp; omega)) _ | refine Below.alloc ?_ (by first | omega | (simp; done) | (simp; omega)) _))); have hsz1 : w.heap.size ≤ w1.heap.size := hB1.size)
  go_wp2_with fail
  (refine (isNaN_any _ _).mono ?_; rintro e w2 ⟨rfl, hb2⟩; have hB2 : Below w.heap.size w w2 := (by refine Below.trans ?_ (hb2.mono (by first | omega | (simp; done) | (simp; omega))); (repeat (first | exact Below.refl _ _ | assumption | refine Below.drew ?_ | refine below_drewN ?_ _ | refine Below.setCell ?_ (by first | omega | (simp; done) | (simp; omega)) _ | refine Below.alloc ?_ (by first | omega | (simp; done) | (simp; omega)) _))); have hsz2 : w.heap.size ≤ w2.heap.size := hB2.size)
  go_wp2
  go_ret
  exact ⟨rfl, by (repeat (first | exact Below.refl _ _ | assumption | refine Below.drew ?_ | refine below_drewN ?_ _ | refine Below.setCell ?_ (by first | omega | (simp; done) | (simp; omega)) _ | refine Below.alloc ?_ (by first | omega | (simp; done) | (simp; omega)) _))⟩
 ·have d1 : decide (x < y) = false := decide_eq_false (by omega)
  have d2 : decide (y < x) = true := decide_eq_true h
  go_enter Tryz.func82, Tryz.ntmps82
  go_wp2_with fail
  (refine (isNaN_any _ _).mono ?_; rintro e w1 ⟨rfl, hb1⟩; have hB1 : Below w.heap.size w w1 := (by refine Below.trans ?_ (hb1.mono (by first | omega | (simp; done) | (simp; omega))); (repeat (first | exact Below.refl _ _ | assumption | refine Below.drew ?_ | refine below_drewN ?_ _ | refine Below.setCell ?_ (by first | omega | (simp; done) | (simp; omega)) _ | refine Below.alloc ?_ (by first | omega | (simp; done) | (simp; omega)) _))); have hsz1 : w.heap.size ≤ w1.heap.size := hB1.size)
  go_wp2_with fail
  (refine (isNaN_any _ _).mono ?_; rintro e w2 ⟨rfl, hb2⟩; have hB2 : Below w.heap.size w w2 := (by refine Below.trans ?_ (hb2.mono (by first | omega | (simp; done) | (simp; omega))); (repeat (first | exact Below.refl _ _ | assumption | refine Below.drew ?_ | refine below_drewN ?_ _ | refine Below.setCell ?_ (by first | omega | (simp; done) | (simp; omega)) _ | refine Below.alloc ?_ (by first | omega | (simp; done) | (simp; omega)) _))); have hsz2 : w.heap.size ≤ w2.heap.size := hB2.size)
  go_wp2
  go_ret
  exact ⟨rfl, by (repeat (first | exact Below.refl _ _ | assumption | refine Below.drew ?_ | refine below_drewN ?_ _ | refine Below.setCell ?_ (by first | omega | (simp; done) | (simp; omega)) _ | refine Below.alloc ?_ (by first | omega | (simp; done) | (simp; omega)) _))⟩
end Go.Proofs.YtcnbbanpnoigdaaGreat
namespace Go.Proofs.YtcnbbanpnoigdaaGreat
open Go.RowKit

def Stays (S : World → Prop) : Prop := ∀ W W' : World, S W → Below W.heap.size W W' → S W'
structure Of (S : World → Prop) where
 world : World
 holds : S world

theorem wp_region_class {P : Program} {S : World → Prop} {id : Nat} {Q : Exit → Act → World → Prop} {a : Act} {w : World} {l : List Oper} (hm : P.follows .mixedOrders = true) (hB : Region.lexB .any l.toArray = true) (hS : S w.drew)
  (h : wpQuiet P l.toArray (fun w' => ∃ d : Of S, w' = d.world) (fun a' => ∀ w', (∃ d : Of S, w' = d.world) → Q .normal a' w') l a) : (Code.region id l.toArray true).wp P Q a w :=
 wp_region_quiet (C := fun w' => ∃ d : Of S, w' = d.world) hm hB ⟨⟨_, hS⟩, rfl⟩ (by simpa using h)

theorem class_call {P : Program} {S : World → Prop} {f : FuncId} {args : Array Value} {v : Value} (hst : Stays S) (d : Of S)
  (h : Calls P f args d.world fun e w' => e = .returned v ∧ Below d.world.heap.size d.world w') : Calls P f args d.world fun e w'' => e = .returned v ∧ ∃ d' : Of S, w'' = d'.world :=
 h.mono fun _ w' ⟨he, hb⟩ => ⟨he, ⟨w', hst d.world w' d.holds hb⟩, rfl⟩
end Go.Proofs.YtcnbbanpnoigdaaGreat
namespace Go.Proofs.YtcnbbanpnoigdaaGreat
open Go.RowKit

def PastV (V W : World) : Prop := Below V.heap.size V W
theorem pastV_stays (V : World) : Stays (PastV V) := fun _ _ h hb => Below.trans h (hb.mono (Below.size h))

def bl (n : Int) : Int := -(n.natAbs : Int)
def axF (a b c : Int) : Nat → Nat
 | 0 => 0
 | k + 1 => if bl (pt a b c k) < bl (pt a b c (axF a b c k)) then k else axF a b c k
theorem axF_lt (a b c : Int) (k : Nat) : axF a b c k ≤ k - 1 := by
 induction k with
 | zero => exact Nat.le_refl _
 | succ k ih => unfold axF; split <;> omega
theorem axF_take {a b c : Int} {k : Nat} (h : bl (pt a b c k) < bl (pt a b c (axF a b c k))) : axF a b c (k + 1) = k := by show (if _ then _ else _) = _; rw [if_pos h]
theorem axF_keep {a b c : Int} {k : Nat} (h : ¬ bl (pt a b c k) < bl (pt a b c (axF a b c k))) : axF a b c (k + 1) = axF a b c k := by show (if _ then _ else _) = _; rw [if_neg h]
def I64 (n : Int) : Prop := -9223372036854775808 ≤ n ∧ n ≤ 9223372036854775807
theorem pt_i64 {a b c : Int} (ha : I64 a) (hb : I64 b) (hc : I64 c) (k : Nat) : I64 (pt a b c k) := by
 unfold pt; split
 ·exact ha
 ·split
  ·exact hb
  ·exact hc

set_option maxRecDepth 100000 in
set_option maxHeartbeats 4000000 in
theorem axis_any (a b c : Int) (w : World) (ha : I64 a) (hb : I64 b) (hc : I64 c) :
  Calls Tryz.prog 70 #[.agg #[.int .i64 a, .int .i64 b, .int .i64 c]] w fun e w' => e = .returned (.int .i64 (axF a b c 3)) ∧ Below w.heap.size w w' := by
 have HB := Lib.hid (Below.refl w.heap.size w);have P := Lib.hid (fun W => parts_any a b c W);have BL := Lib.hid (fun k W => below_any (pt a b c k) W (pt_i64 ha hb hc k).1 (pt_i64 ha hb hc k).2);clear ha hb hc
 go_enter Tryz.func70, Tryz.ntmps70
 go_upto_region 1 with fail
 have hbx := below_new1 w (.cells #[.int .i64 a, .int .i64 b, .int .i64 c] 57)
 have zx : (w.alloc (.cells #[.int .i64 a, .int .i64 b, .int .i64 c] 57)).heap.size = w.heap.size + 1 := by simp
 have HB := Lib.hid hbx;have kx := Lib.hid (Lok.new w 57 #[.int .i64 a, .int .i64 b, .int .i64 c]);clear hbx;generalize w.alloc (.cells #[.int .i64 a, .int .i64 b, .int .i64 c] 57) = Vx at *;clear zx;have x0 := kx.out.cell (i := 0) rfl;have x1 := kx.out.cell (i := 1) rfl;have x2 := kx.out.cell (i := 2) rfl
 go_wp2_with fail
 clear x0 x1 x2;((with_reducible refine (P.out _).mono ?_); rintro e w1 ⟨rfl, hb1⟩);replace HB := Lib.hid (HB.out.trans (hb1.mono HB.out.size));clear hb1
 go_wp2_with fail
 have hb1 := below_new1 w1 (.cells #[.int .i64 a, .int .i64 b, .int .i64 c] 112);replace HB := Lib.hid (HB.out.trans (hb1.mono HB.out.size));have k1 := Lib.hid (Lok.new w1 112 #[.int .i64 a, .int .i64 b, .int .i64 c]);clear hb1;generalize w1.alloc (.cells #[.int .i64 a, .int .i64 b, .int .i64 c] 112) = V1 at *;generalize w1.heap.size = g1 at *
 go_wp2_with fail
 go_loopw [4, 8] (fun x y wr => ∃ k : Nat, x = .int .i64 (axF a b c k) ∧ y = .int .i64 k ∧ k ≤ 3 ∧ Below V1.heap.size V1 wr) (fun _ y _ => 3 - (intOf y).toNat)
 case atStart => exact ⟨0, rfl, rfl, Nat.zero_le _, Below.refl _ _⟩
 case round =>
  obtain ⟨k, rfl, rfl, hk, hB⟩ := hrel;have B := Lib.hid hB;clear hB
  by_cases hlt : k < 3
  ·have hm : axF a b c k < 3 := by have := axF_lt a b c k; omega
   have c0 := (k1.out.keep B.out).cell (pt_at a b c hlt);have c1 := (k1.out.keep B.out).cell (pt_at a b c hm);have B1 := Lib.hid (fun W => BL.out k W);have B2 := Lib.hid (fun W => BL.out (axF a b c k) W);have TK := axF_take (a := a) (b := b) (c := c) (k := k);have KP := axF_keep (a := a) (b := b) (c := c) (k := k)
   change Hid (∀ W, Calls Tryz.prog 96 #[.int .i64 (pt a b c k)] W fun e w' => e = .returned (.int .i64 (bl (pt a b c k))) ∧ Below W.heap.size W w') at B1
   change Hid (∀ W, Calls Tryz.prog 96 #[.int .i64 (pt a b c (axF a b c k))] W fun e w' => e = .returned (.int .i64 (bl (pt a b c (axF a b c k)))) ∧ Below W.heap.size W w') at B2
   have i0 : (0 : Int) ≤ (k : Int) := by omega
   have i1 : (k : Int) < 3 := by omega
   have i2 : ((k : Int)).toNat = k := by omega
   have j0 : (0 : Int) ≤ (axF a b c k : Int) := by omega
   have j1 : (axF a b c k : Int) < 3 := by omega
   have j2 : ((axF a b c k : Int)).toNat = axF a b c k := by omega
   generalize bl (pt a b c k) = p at *;generalize bl (pt a b c (axF a b c k)) = q at *;generalize pt a b c k = x at *;generalize pt a b c (axF a b c k) = y at *;have HT := Lib.hid TK;have HK := Lib.hid KP;clear TK KP BL;generalize axF a b c k = m at *;have a0 : ∀ d : Of (PastV wr), d.world.cell? ⟨g1, k, none⟩ = some (.int .i64 x) := fun d => keepc d.holds c0;have a1 : ∀ d : Of (PastV wr), d.world.cell? ⟨g1, m, none⟩ = some (.int .i64 y) := fun d => keepc d.holds c1;have ST := Lib.hid (pastV_stays wr);have ne : Nonempty (Of (PastV wr)) := ⟨⟨wr, Below.refl _ _⟩⟩;clear c0 c1
   go_wp2_with fail
   refine wp_region_class (S := PastV wr) (by kernel_rfl) (by kernel_rfl) (Below.refl _ _).drew ?_
   repeat (go_big_quiet_step (first | (go_at_call 96; first | (with_reducible exact class_call ST.out _ (B1.out _)) | (with_reducible exact class_call ST.out _ (B2.out _)))))
   refine wpQuiet_nil ?_
   rintro _ ⟨d, rfl⟩
   have HD := Lib.hid (B.out.trans (show Below V1.heap.size wr d.world from (show Below wr.heap.size wr d.world from d.holds).mono B.out.size));clear a0 a1 ne ST
   by_cases s : p < q
   ·have ds : decide (p < q) = true := decide_eq_true s
    have E := Lib.hid (HT.out (by omega));clear HT HK
    go_wp2
    go_roundw
    case rel => exact ⟨k + 1, by rw [E.out], by go_num, hlt, HD.out⟩
    case measure => simp [intOf]; omega
   ·have ds : decide (p < q) = false := decide_eq_false s
    have E := Lib.hid (HK.out (by omega))
    have s' : q ≤ p := by omega
    clear HT HK
    go_wp2
    go_roundw
    case rel => exact ⟨k + 1, by rw [E.out], by go_num, hlt, HD.out⟩
    case measure => simp [intOf]; omega
  ·obtain rfl : k = 3 := by omega
   go_wp2
   go_ret
   exact ⟨rfl, HB.out.trans (B.out.mono HB.out.size)⟩
end Go.Proofs.YtcnbbanpnoigdaaGreat
namespace Go.Proofs.YtcnbbanpnoigdaaGreat
open Go.RowKit

set_option maxRecDepth 100000 in
set_option maxHeartbeats 1000000 in
theorem rnear_any (n : Int) (w : World) :
  Calls Tryz.prog 106 #[.int .i64 n] w fun e w' => e = .returned (.bool (nB n)) ∧ Below w.heap.size w w' := by
 by_cases h1 : -1048576 ≤ n
 ·by_cases h2 : n ≤ 1048576
  ·rw [show nB n = true from nB_iff.2 ⟨h1, h2⟩]
   go_enter Tryz.func106, Tryz.ntmps106
   go_wp2
   go_ret
   exact ⟨rfl, by (repeat (first | exact Below.refl _ _ | assumption | refine Below.drew ?_ | refine below_drewN ?_ _ | refine Below.setCell ?_ (by first | omega | (simp; done) | (simp; omega)) _ | refine Below.alloc ?_ (by first | omega | (simp; done) | (simp; omega)) _))⟩
  ·rw [show nB n = false from nB_not.2 (fun h => h2 h.2)]
   have d2 : decide (n ≤ 1048576) = false := decide_eq_false h2
   go_enter Tryz.func106, Tryz.ntmps106
   go_wp2
   go_ret
   exact ⟨rfl, by (repeat (first | exact Below.refl _ _ | assumption | refine Below.drew ?_ | refine below_drewN ?_ _ | refine Below.setCell ?_ (by first | omega | (simp; done) | (simp; omega)) _ | refine Below.alloc ?_ (by first | omega | (simp; done) | (simp; omega)) _))⟩
 ·rw [show nB n = false from nB_not.2 (fun h => h1 h.1)]
  have d1 : decide (-1048576 ≤ n) = false := decide_eq_false h1
  go_enter Tryz.func106, Tryz.ntmps106
  go_wp2
  go_ret
  exact ⟨rfl, by (repeat (first | exact Below.refl _ _ | assumption | refine Below.drew ?_ | refine below_drewN ?_ _ | refine Below.setCell ?_ (by first | omega | (simp; done) | (simp; omega)) _ | refine Below.alloc ?_ (by first | omega | (simp; done) | (simp; omega)) _))⟩
set_option maxRecDepth 100000 in
set_option maxHeartbeats 1000000 in
theorem ris2_any (a b : Int) (w : World) :
  Calls Tryz.prog 91 #[.agg #[.int .i64 a, .int .i64 b]] w fun e w' => e = .returned (.bool (n2 a b)) ∧ Below w.heap.size w w' := by
 have HB := Lib.hid (Below.refl w.heap.size w);unfold n2;have Na := Lib.hid (fun W => rnear_any a W);have Nb := Lib.hid (fun W => rnear_any b W);generalize nB a = pa at *;generalize nB b = pb at *
 cases pa with
 | false =>
  go_enter Tryz.func91, Tryz.ntmps91
  go_upto_region 1 with fail
  have hbx := below_new1 w (.cells #[.int .i64 a, .int .i64 b] 36)
  have zx : (w.alloc (.cells #[.int .i64 a, .int .i64 b] 36)).heap.size = w.heap.size + 1 := by simp
  have HB := Lib.hid hbx;have kx := Lib.hid (Lok.new w 36 #[.int .i64 a, .int .i64 b]);clear hbx;generalize w.alloc (.cells #[.int .i64 a, .int .i64 b] 36) = Vx at *;clear zx;have x0 := kx.out.cell (i := 0) rfl
  go_wp2_with fail
  clear x0
  (((with_reducible refine (Na.out _).mono ?_); rintro e w1 ⟨rfl, hb1⟩); replace HB := Lib.hid (HB.out.trans (hb1.mono HB.out.size)); replace kx := Lib.hid (kx.out.keep hb1); clear hb1)
  go_wp2
  go_ret
  exact ⟨rfl, HB.out⟩
 | true =>
  cases pb with
  | false =>
   go_enter Tryz.func91, Tryz.ntmps91
   go_upto_region 1 with fail
   have hbx := below_new1 w (.cells #[.int .i64 a, .int .i64 b] 36)
   have zx : (w.alloc (.cells #[.int .i64 a, .int .i64 b] 36)).heap.size = w.heap.size + 1 := by simp
   have HB := Lib.hid hbx;have kx := Lib.hid (Lok.new w 36 #[.int .i64 a, .int .i64 b]);clear hbx;generalize w.alloc (.cells #[.int .i64 a, .int .i64 b] 36) = Vx at *;clear zx;have x0 := kx.out.cell (i := 0) rfl
   go_wp2_with fail
   clear x0
   (((with_reducible refine (Na.out _).mono ?_); rintro e w1 ⟨rfl, hb1⟩); replace HB := Lib.hid (HB.out.trans (hb1.mono HB.out.size)); replace kx := Lib.hid (kx.out.keep hb1); clear hb1)
   have x1 := kx.out.cell (i := 1) rfl
   go_wp2_with fail
   clear x1
   (((with_reducible refine (Nb.out _).mono ?_); rintro e w2 ⟨rfl, hb2⟩); replace HB := Lib.hid (HB.out.trans (hb2.mono HB.out.size)); replace kx := Lib.hid (kx.out.keep hb2); clear hb2)
   go_wp2
   go_ret
   exact ⟨rfl, HB.out⟩
  | true =>
   go_enter Tryz.func91, Tryz.ntmps91
   go_upto_region 1 with fail
   have hbx := below_new1 w (.cells #[.int .i64 a, .int .i64 b] 36)
   have zx : (w.alloc (.cells #[.int .i64 a, .int .i64 b] 36)).heap.size = w.heap.size + 1 := by simp
   have HB := Lib.hid hbx;have kx := Lib.hid (Lok.new w 36 #[.int .i64 a, .int .i64 b]);clear hbx;generalize w.alloc (.cells #[.int .i64 a, .int .i64 b] 36) = Vx at *;clear zx;have x0 := kx.out.cell (i := 0) rfl
   go_wp2_with fail
   clear x0
   (((with_reducible refine (Na.out _).mono ?_); rintro e w1 ⟨rfl, hb1⟩); replace HB := Lib.hid (HB.out.trans (hb1.mono HB.out.size)); replace kx := Lib.hid (kx.out.keep hb1); clear hb1)
   have x1 := kx.out.cell (i := 1) rfl
   go_wp2_with fail
   clear x1
   (((with_reducible refine (Nb.out _).mono ?_); rintro e w2 ⟨rfl, hb2⟩); replace HB := Lib.hid (HB.out.trans (hb2.mono HB.out.size)); replace kx := Lib.hid (kx.out.keep hb2); clear hb2)
   go_wp2
   go_ret
   exact ⟨rfl, HB.out⟩
set_option maxRecDepth 100000 in
set_option maxHeartbeats 1000000 in
theorem ris3_any (a b c : Int) (w : World) :
  Calls Tryz.prog 90 #[.agg #[.int .i64 a, .int .i64 b, .int .i64 c]] w fun e w' => e = .returned (.bool (n3 a b c)) ∧ Below w.heap.size w w' := by
 have HB := Lib.hid (Below.refl w.heap.size w);unfold n3;have Na := Lib.hid (fun W => rnear_any a W);have Nb := Lib.hid (fun W => rnear_any b W);have Nc := Lib.hid (fun W => rnear_any c W);generalize nB a = pa at *;generalize nB b = pb at *;generalize nB c = pc at *
 cases pa with
 | false =>
  go_enter Tryz.func90, Tryz.ntmps90
  go_upto_region 1 with fail
  have hbx := below_new1 w (.cells #[.int .i64 a, .int .i64 b, .int .i64 c] 57)
  have zx : (w.alloc (.cells #[.int .i64 a, .int .i64 b, .int .i64 c] 57)).heap.size = w.heap.size + 1 := by simp
  have HB := Lib.hid hbx;have kx := Lib.hid (Lok.new w 57 #[.int .i64 a, .int .i64 b, .int .i64 c]);clear hbx;generalize w.alloc (.cells #[.int .i64 a, .int .i64 b, .int .i64 c] 57) = Vx at *;clear zx;have x0 := kx.out.cell (i := 0) rfl
  go_wp2_with fail
  clear x0
  (((with_reducible refine (Na.out _).mono ?_); rintro e w1 ⟨rfl, hb1⟩); replace HB := Lib.hid (HB.out.trans (hb1.mono HB.out.size)); replace kx := Lib.hid (kx.out.keep hb1); clear hb1)
  go_wp2
  go_ret
  exact ⟨rfl, HB.out⟩
 | true =>
  cases pb with
  | false =>
   go_enter Tryz.func90, Tryz.ntmps90
   go_upto_region 1 with fail
   have hbx := below_new1 w (.cells #[.int .i64 a, .int .i64 b, .int .i64 c] 57)
   have zx : (w.alloc (.cells #[.int .i64 a, .int .i64 b, .int .i64 c] 57)).heap.size = w.heap.size + 1 := by simp
   have HB := Lib.hid hbx;have kx := Lib.hid (Lok.new w 57 #[.int .i64 a, .int .i64 b, .int .i64 c]);clear hbx;generalize w.alloc (.cells #[.int .i64 a, .int .i64 b, .int .i64 c] 57) = Vx at *;clear zx;have x0 := kx.out.cell (i := 0) rfl
   go_wp2_with fail
   clear x0
   (((with_reducible refine (Na.out _).mono ?_); rintro e w1 ⟨rfl, hb1⟩); replace HB := Lib.hid (HB.out.trans (hb1.mono HB.out.size)); replace kx := Lib.hid (kx.out.keep hb1); clear hb1)
   have x1 := kx.out.cell (i := 1) rfl
   go_wp2_with fail
   clear x1
   (((with_reducible refine (Nb.out _).mono ?_); rintro e w2 ⟨rfl, hb2⟩); replace HB := Lib.hid (HB.out.trans (hb2.mono HB.out.size)); replace kx := Lib.hid (kx.out.keep hb2); clear hb2)
   go_wp2
   go_ret
   exact ⟨rfl, HB.out⟩
  | true =>
   cases pc with
   | false =>
    go_enter Tryz.func90, Tryz.ntmps90
    go_upto_region 1 with fail
    have hbx := below_new1 w (.cells #[.int .i64 a, .int .i64 b, .int .i64 c] 57)
    have zx : (w.alloc (.cells #[.int .i64 a, .int .i64 b, .int .i64 c] 57)).heap.size = w.heap.size + 1 := by simp
    have HB := Lib.hid hbx;have kx := Lib.hid (Lok.new w 57 #[.int .i64 a, .int .i64 b, .int .i64 c]);clear hbx;generalize w.alloc (.cells #[.int .i64 a, .int .i64 b, .int .i64 c] 57) = Vx at *;clear zx;have x0 := kx.out.cell (i := 0) rfl
    go_wp2_with fail
    clear x0
    (((with_reducible refine (Na.out _).mono ?_); rintro e w1 ⟨rfl, hb1⟩); replace HB := Lib.hid (HB.out.trans (hb1.mono HB.out.size)); replace kx := Lib.hid (kx.out.keep hb1); clear hb1)
    have x1 := kx.out.cell (i := 1) rfl
    go_wp2_with fail
    clear x1
    (((with_reducible refine (Nb.out _).mono ?_); rintro e w2 ⟨rfl, hb2⟩); replace HB := Lib.hid (HB.out.trans (hb2.mono HB.out.size)); replace kx := Lib.hid (kx.out.keep hb2); clear hb2)
    have x2 := kx.out.cell (i := 2) rfl
    go_wp2_with fail
    clear x2
    (((with_reducible refine (Nc.out _).mono ?_); rintro e w3 ⟨rfl, hb3⟩); replace HB := Lib.hid (HB.out.trans (hb3.mono HB.out.size)); replace kx := Lib.hid (kx.out.keep hb3); clear hb3)
    go_wp2
    go_ret
    exact ⟨rfl, HB.out⟩
   | true =>
    go_enter Tryz.func90, Tryz.ntmps90
    go_upto_region 1 with fail
    have hbx := below_new1 w (.cells #[.int .i64 a, .int .i64 b, .int .i64 c] 57)
    have zx : (w.alloc (.cells #[.int .i64 a, .int .i64 b, .int .i64 c] 57)).heap.size = w.heap.size + 1 := by simp
    have HB := Lib.hid hbx;have kx := Lib.hid (Lok.new w 57 #[.int .i64 a, .int .i64 b, .int .i64 c]);clear hbx;generalize w.alloc (.cells #[.int .i64 a, .int .i64 b, .int .i64 c] 57) = Vx at *;clear zx;have x0 := kx.out.cell (i := 0) rfl
    go_wp2_with fail
    clear x0
    (((with_reducible refine (Na.out _).mono ?_); rintro e w1 ⟨rfl, hb1⟩); replace HB := Lib.hid (HB.out.trans (hb1.mono HB.out.size)); replace kx := Lib.hid (kx.out.keep hb1); clear hb1)
    have x1 := kx.out.cell (i := 1) rfl
    go_wp2_with fail
    clear x1
    (((with_reducible refine (Nb.out _).mono ?_); rintro e w2 ⟨rfl, hb2⟩); replace HB := Lib.hid (HB.out.trans (hb2.mono HB.out.size)); replace kx := Lib.hid (kx.out.keep hb2); clear hb2)
    have x2 := kx.out.cell (i := 2) rfl
    go_wp2_with fail
    clear x2
    (((with_reducible refine (Nc.out _).mono ?_); rintro e w3 ⟨rfl, hb3⟩); replace HB := Lib.hid (HB.out.trans (hb3.mono HB.out.size)); replace kx := Lib.hid (kx.out.keep hb3); clear hb3)
    go_wp2
    go_ret
    exact ⟨rfl, HB.out⟩
set_option maxRecDepth 100000 in
set_option maxHeartbeats 1000000 in
theorem rsub2_any (a b c d : Int) (w : World) :
  Calls Tryz.prog 104 #[.agg #[.int .i64 a, .int .i64 b], .agg #[.int .i64 c, .int .i64 d]] w fun e' w' => e' = .returned (.agg #[.int .i64 (sF (n2 a b && n2 c d) a c), .int .i64 (sF (n2 a b && n2 c d) b d)]) ∧ Below w.heap.size w w' := by
 have HB := Lib.hid (Below.refl w.heap.size w);have I1 := Lib.hid (fun W => ris2_any a b W);have I2 := Lib.hid (fun W => ris2_any c d W)
 cases h1 : n2 a b with
 | false =>
  rw [h1] at I1
  show Calls _ _ _ _ fun e' w' => e' = .returned (.agg #[.int .i64 0, .int .i64 0]) ∧ _
  clear h1
  go_enter Tryz.func104, Tryz.ntmps104
  go_upto_region 1 with fail
  have hbx := below_new1 w (.cells #[.int .i64 a, .int .i64 b] 36)
  have zx : (w.alloc (.cells #[.int .i64 a, .int .i64 b] 36)).heap.size = w.heap.size + 1 := by simp
  have HB := Lib.hid hbx;have kx := Lib.hid (Lok.new w 36 #[.int .i64 a, .int .i64 b]);clear hbx;generalize w.alloc (.cells #[.int .i64 a, .int .i64 b] 36) = Vx at *;have hby := below_new1 Vx (.cells #[.int .i64 c, .int .i64 d] 36);replace kx := Lib.hid (kx.out.keep hby)
  have zy : (Vx.alloc (.cells #[.int .i64 c, .int .i64 d] 36)).heap.size = Vx.heap.size + 1 := by simp
  replace HB := Lib.hid (HB.out.trans (hby.mono HB.out.size));have ky := Lib.hid (Lok.new Vx 36 #[.int .i64 c, .int .i64 d]);clear hby;generalize Vx.alloc (.cells #[.int .i64 c, .int .i64 d] 36) = Vy at *;rw [zx] at ky zy;have hbz := below_new1 Vy (.cells #[.int .i64 0, .int .i64 0] 36);replace kx := Lib.hid (kx.out.keep hbz);replace ky := Lib.hid (ky.out.keep hbz)
  have zz : (Vy.alloc (.cells #[.int .i64 0, .int .i64 0] 36)).heap.size = Vy.heap.size + 1 := by simp
  replace HB := Lib.hid (HB.out.trans (hbz.mono HB.out.size));have kz := Lib.hid (Lok.new Vy 36 #[.int .i64 0, .int .i64 0]);clear hbz;generalize Vy.alloc (.cells #[.int .i64 0, .int .i64 0] 36) = Vz at *;rw [zy] at kz;clear zx zy zz;have x0 := kx.out.cell (i := 0) rfl;have x1 := kx.out.cell (i := 1) rfl
  go_wp2_with fail
  clear x0 x1
  (((with_reducible refine (I1.out _).mono ?_); rintro e w1 ⟨rfl, hb1⟩); replace HB := Lib.hid (HB.out.trans (hb1.mono HB.out.size)); replace kx := Lib.hid (kx.out.keep hb1); replace ky := Lib.hid (ky.out.keep hb1); replace kz := Lib.hid (kz.out.keep hb1); clear hb1)
  have z0 := kz.out.cell (i := 0) rfl;have z1 := kz.out.cell (i := 1) rfl;have f0 := kz.out.frozen 0;have f1 := kz.out.frozen 1
  go_wp2_with fail
  exact bodyPost_ret (v := .agg #[.int .i64 0, .int .i64 0]) (by simp [results, Tryz.results104, go_sem, z0, z1]) rfl ⟨rfl, (HB.out.setCell (by simp <;> omega) _).setCell (by simp <;> omega) _⟩
 | true =>
  rw [h1] at I1
  cases h2 : n2 c d with
  | false =>
   rw [h2] at I2
   show Calls _ _ _ _ fun e' w' => e' = .returned (.agg #[.int .i64 0, .int .i64 0]) ∧ _
   clear h1 h2
   go_enter Tryz.func104, Tryz.ntmps104
   go_upto_region 1 with fail
   have hbx := below_new1 w (.cells #[.int .i64 a, .int .i64 b] 36)
   have zx : (w.alloc (.cells #[.int .i64 a, .int .i64 b] 36)).heap.size = w.heap.size + 1 := by simp
   have HB := Lib.hid hbx;have kx := Lib.hid (Lok.new w 36 #[.int .i64 a, .int .i64 b]);clear hbx;generalize w.alloc (.cells #[.int .i64 a, .int .i64 b] 36) = Vx at *;have hby := below_new1 Vx (.cells #[.int .i64 c, .int .i64 d] 36);replace kx := Lib.hid (kx.out.keep hby)
   have zy : (Vx.alloc (.cells #[.int .i64 c, .int .i64 d] 36)).heap.size = Vx.heap.size + 1 := by simp
   replace HB := Lib.hid (HB.out.trans (hby.mono HB.out.size));have ky := Lib.hid (Lok.new Vx 36 #[.int .i64 c, .int .i64 d]);clear hby;generalize Vx.alloc (.cells #[.int .i64 c, .int .i64 d] 36) = Vy at *;rw [zx] at ky zy;have hbz := below_new1 Vy (.cells #[.int .i64 0, .int .i64 0] 36);replace kx := Lib.hid (kx.out.keep hbz);replace ky := Lib.hid (ky.out.keep hbz)
   have zz : (Vy.alloc (.cells #[.int .i64 0, .int .i64 0] 36)).heap.size = Vy.heap.size + 1 := by simp
   replace HB := Lib.hid (HB.out.trans (hbz.mono HB.out.size));have kz := Lib.hid (Lok.new Vy 36 #[.int .i64 0, .int .i64 0]);clear hbz;generalize Vy.alloc (.cells #[.int .i64 0, .int .i64 0] 36) = Vz at *;rw [zy] at kz;clear zx zy zz;have x0 := kx.out.cell (i := 0) rfl;have x1 := kx.out.cell (i := 1) rfl
   go_wp2_with fail
   clear x0 x1
   (((with_reducible refine (I1.out _).mono ?_); rintro e w1 ⟨rfl, hb1⟩); replace HB := Lib.hid (HB.out.trans (hb1.mono HB.out.size)); replace kx := Lib.hid (kx.out.keep hb1); replace ky := Lib.hid (ky.out.keep hb1); replace kz := Lib.hid (kz.out.keep hb1); clear hb1)
   have y0 := ky.out.cell (i := 0) rfl;have y1 := ky.out.cell (i := 1) rfl
   go_wp2_with fail
   clear y0 y1
   (((with_reducible refine (I2.out _).mono ?_); rintro e w2 ⟨rfl, hb2⟩); replace HB := Lib.hid (HB.out.trans (hb2.mono HB.out.size)); replace kx := Lib.hid (kx.out.keep hb2); replace ky := Lib.hid (ky.out.keep hb2); replace kz := Lib.hid (kz.out.keep hb2); clear hb2)
   have z0 := kz.out.cell (i := 0) rfl;have z1 := kz.out.cell (i := 1) rfl;have f0 := kz.out.frozen 0;have f1 := kz.out.frozen 1
   go_wp2_with fail
   exact bodyPost_ret (v := .agg #[.int .i64 0, .int .i64 0]) (by simp [results, Tryz.results104, go_sem, z0, z1]) rfl ⟨rfl, (HB.out.setCell (by simp <;> omega) _).setCell (by simp <;> omega) _⟩
  | true =>
   rw [h2] at I2
   show Calls _ _ _ _ fun e' w' => e' = .returned (.agg #[.int .i64 (a - c), .int .i64 (b - d)]) ∧ _
   rw [n2_iff] at h1 h2;have e1 := sub_wrap h1.1 h2.1;have e2 := sub_wrap h1.2 h2.2;clear h1 h2
   go_enter Tryz.func104, Tryz.ntmps104
   go_upto_region 1 with fail
   have hbx := below_new1 w (.cells #[.int .i64 a, .int .i64 b] 36)
   have zx : (w.alloc (.cells #[.int .i64 a, .int .i64 b] 36)).heap.size = w.heap.size + 1 := by simp
   have HB := Lib.hid hbx;have kx := Lib.hid (Lok.new w 36 #[.int .i64 a, .int .i64 b]);clear hbx;generalize w.alloc (.cells #[.int .i64 a, .int .i64 b] 36) = Vx at *;have hby := below_new1 Vx (.cells #[.int .i64 c, .int .i64 d] 36);replace kx := Lib.hid (kx.out.keep hby)
   have zy : (Vx.alloc (.cells #[.int .i64 c, .int .i64 d] 36)).heap.size = Vx.heap.size + 1 := by simp
   replace HB := Lib.hid (HB.out.trans (hby.mono HB.out.size));have ky := Lib.hid (Lok.new Vx 36 #[.int .i64 c, .int .i64 d]);clear hby;generalize Vx.alloc (.cells #[.int .i64 c, .int .i64 d] 36) = Vy at *;rw [zx] at ky zy;have hbz := below_new1 Vy (.cells #[.int .i64 0, .int .i64 0] 36);replace kx := Lib.hid (kx.out.keep hbz);replace ky := Lib.hid (ky.out.keep hbz)
   have zz : (Vy.alloc (.cells #[.int .i64 0, .int .i64 0] 36)).heap.size = Vy.heap.size + 1 := by simp
   replace HB := Lib.hid (HB.out.trans (hbz.mono HB.out.size));have kz := Lib.hid (Lok.new Vy 36 #[.int .i64 0, .int .i64 0]);clear hbz;generalize Vy.alloc (.cells #[.int .i64 0, .int .i64 0] 36) = Vz at *;rw [zy] at kz;clear zx zy zz;have x0 := kx.out.cell (i := 0) rfl;have x1 := kx.out.cell (i := 1) rfl
   go_wp2_with fail
   clear x0 x1
   (((with_reducible refine (I1.out _).mono ?_); rintro e w1 ⟨rfl, hb1⟩); replace HB := Lib.hid (HB.out.trans (hb1.mono HB.out.size)); replace kx := Lib.hid (kx.out.keep hb1); replace ky := Lib.hid (ky.out.keep hb1); replace kz := Lib.hid (kz.out.keep hb1); clear hb1)
   have y0 := ky.out.cell (i := 0) rfl;have y1 := ky.out.cell (i := 1) rfl
   go_wp2_with fail
   clear y0 y1
   (((with_reducible refine (I2.out _).mono ?_); rintro e w2 ⟨rfl, hb2⟩); replace HB := Lib.hid (HB.out.trans (hb2.mono HB.out.size)); replace kx := Lib.hid (kx.out.keep hb2); replace ky := Lib.hid (ky.out.keep hb2); replace kz := Lib.hid (kz.out.keep hb2); clear hb2)
   have x0 := kx.out.cell (i := 0) rfl;have x1 := kx.out.cell (i := 1) rfl;have y0 := ky.out.cell (i := 0) rfl;have y1 := ky.out.cell (i := 1) rfl;have z0 := kz.out.cell (i := 0) rfl;have z1 := kz.out.cell (i := 1) rfl;have f0 := kz.out.frozen 0;have f1 := kz.out.frozen 1
   go_wp2_with fail
   exact bodyPost_ret (v := .agg #[.int .i64 (a - c), .int .i64 (b - d)]) (by simp [results, Tryz.results104, go_sem, z0, z1]) rfl ⟨rfl, (HB.out.setCell (by simp <;> omega) _).setCell (by simp <;> omega) _⟩
set_option maxRecDepth 100000 in
set_option maxHeartbeats 1000000 in
theorem rsub3_any (a b c d e f : Int) (w : World) :
  Calls Tryz.prog 75 #[.agg #[.int .i64 a, .int .i64 b, .int .i64 c], .agg #[.int .i64 d, .int .i64 e, .int .i64 f]] w fun e' w' => e' = .returned (.agg #[.int .i64 (sF (n3 a b c && n3 d e f) a d), .int .i64 (sF (n3 a b c && n3 d e f) b e), .int .i64 (sF (n3 a b c && n3 d e f) c f)]) ∧ Below w.heap.size w w' := by
 have HB := Lib.hid (Below.refl w.heap.size w);have I1 := Lib.hid (fun W => ris3_any a b c W);have I2 := Lib.hid (fun W => ris3_any d e f W)
 cases h1 : n3 a b c with
 | false =>
  rw [h1] at I1
  show Calls _ _ _ _ fun e' w' => e' = .returned (.agg #[.int .i64 0, .int .i64 0, .int .i64 0]) ∧ _
  clear h1
  go_enter Tryz.func75, Tryz.ntmps75
  go_upto_region 1 with fail
  have hbx := below_new1 w (.cells #[.int .i64 a, .int .i64 b, .int .i64 c] 57)
  have zx : (w.alloc (.cells #[.int .i64 a, .int .i64 b, .int .i64 c] 57)).heap.size = w.heap.size + 1 := by simp
  have HB := Lib.hid hbx;have kx := Lib.hid (Lok.new w 57 #[.int .i64 a, .int .i64 b, .int .i64 c]);clear hbx;generalize w.alloc (.cells #[.int .i64 a, .int .i64 b, .int .i64 c] 57) = Vx at *;have hby := below_new1 Vx (.cells #[.int .i64 d, .int .i64 e, .int .i64 f] 57);replace kx := Lib.hid (kx.out.keep hby)
  have zy : (Vx.alloc (.cells #[.int .i64 d, .int .i64 e, .int .i64 f] 57)).heap.size = Vx.heap.size + 1 := by simp
  replace HB := Lib.hid (HB.out.trans (hby.mono HB.out.size));have ky := Lib.hid (Lok.new Vx 57 #[.int .i64 d, .int .i64 e, .int .i64 f]);clear hby;generalize Vx.alloc (.cells #[.int .i64 d, .int .i64 e, .int .i64 f] 57) = Vy at *;rw [zx] at ky zy;have hbz := below_new1 Vy (.cells #[.int .i64 0, .int .i64 0, .int .i64 0] 57);replace kx := Lib.hid (kx.out.keep hbz);replace ky := Lib.hid (ky.out.keep hbz)
  have zz : (Vy.alloc (.cells #[.int .i64 0, .int .i64 0, .int .i64 0] 57)).heap.size = Vy.heap.size + 1 := by simp
  replace HB := Lib.hid (HB.out.trans (hbz.mono HB.out.size));have kz := Lib.hid (Lok.new Vy 57 #[.int .i64 0, .int .i64 0, .int .i64 0]);clear hbz;generalize Vy.alloc (.cells #[.int .i64 0, .int .i64 0, .int .i64 0] 57) = Vz at *;rw [zy] at kz;clear zx zy zz;have x0 := kx.out.cell (i := 0) rfl;have x1 := kx.out.cell (i := 1) rfl;have x2 := kx.out.cell (i := 2) rfl
  go_wp2_with fail
  clear x0 x1 x2
  (((with_reducible refine (I1.out _).mono ?_); rintro e w1 ⟨rfl, hb1⟩); replace HB := Lib.hid (HB.out.trans (hb1.mono HB.out.size)); replace kx := Lib.hid (kx.out.keep hb1); replace ky := Lib.hid (ky.out.keep hb1); replace kz := Lib.hid (kz.out.keep hb1); clear hb1)
  have z0 := kz.out.cell (i := 0) rfl;have z1 := kz.out.cell (i := 1) rfl;have z2 := kz.out.cell (i := 2) rfl;have f0 := kz.out.frozen 0;have f1 := kz.out.frozen 1;have f2 := kz.out.frozen 2
  go_wp2_with fail
  exact bodyPost_ret (v := .agg #[.int .i64 0, .int .i64 0, .int .i64 0]) (by simp [results, Tryz.results75, go_sem, z0, z1, z2]) rfl ⟨rfl, ((HB.out.setCell (by simp <;> omega) _).setCell (by simp <;> omega) _).setCell (by simp <;> omega) _⟩
 | true =>
  rw [h1] at I1
  cases h2 : n3 d e f with
  | false =>
   rw [h2] at I2
   show Calls _ _ _ _ fun e' w' => e' = .returned (.agg #[.int .i64 0, .int .i64 0, .int .i64 0]) ∧ _
   clear h1 h2
   go_enter Tryz.func75, Tryz.ntmps75
   go_upto_region 1 with fail
   have hbx := below_new1 w (.cells #[.int .i64 a, .int .i64 b, .int .i64 c] 57)
   have zx : (w.alloc (.cells #[.int .i64 a, .int .i64 b, .int .i64 c] 57)).heap.size = w.heap.size + 1 := by simp
   have HB := Lib.hid hbx;have kx := Lib.hid (Lok.new w 57 #[.int .i64 a, .int .i64 b, .int .i64 c]);clear hbx;generalize w.alloc (.cells #[.int .i64 a, .int .i64 b, .int .i64 c] 57) = Vx at *;have hby := below_new1 Vx (.cells #[.int .i64 d, .int .i64 e, .int .i64 f] 57);replace kx := Lib.hid (kx.out.keep hby)
   have zy : (Vx.alloc (.cells #[.int .i64 d, .int .i64 e, .int .i64 f] 57)).heap.size = Vx.heap.size + 1 := by simp
   replace HB := Lib.hid (HB.out.trans (hby.mono HB.out.size));have ky := Lib.hid (Lok.new Vx 57 #[.int .i64 d, .int .i64 e, .int .i64 f]);clear hby;generalize Vx.alloc (.cells #[.int .i64 d, .int .i64 e, .int .i64 f] 57) = Vy at *;rw [zx] at ky zy;have hbz := below_new1 Vy (.cells #[.int .i64 0, .int .i64 0, .int .i64 0] 57);replace kx := Lib.hid (kx.out.keep hbz);replace ky := Lib.hid (ky.out.keep hbz)
   have zz : (Vy.alloc (.cells #[.int .i64 0, .int .i64 0, .int .i64 0] 57)).heap.size = Vy.heap.size + 1 := by simp
   replace HB := Lib.hid (HB.out.trans (hbz.mono HB.out.size));have kz := Lib.hid (Lok.new Vy 57 #[.int .i64 0, .int .i64 0, .int .i64 0]);clear hbz;generalize Vy.alloc (.cells #[.int .i64 0, .int .i64 0, .int .i64 0] 57) = Vz at *;rw [zy] at kz;clear zx zy zz;have x0 := kx.out.cell (i := 0) rfl;have x1 := kx.out.cell (i := 1) rfl;have x2 := kx.out.cell (i := 2) rfl
   go_wp2_with fail
   clear x0 x1 x2
   (((with_reducible refine (I1.out _).mono ?_); rintro e w1 ⟨rfl, hb1⟩); replace HB := Lib.hid (HB.out.trans (hb1.mono HB.out.size)); replace kx := Lib.hid (kx.out.keep hb1); replace ky := Lib.hid (ky.out.keep hb1); replace kz := Lib.hid (kz.out.keep hb1); clear hb1)
   have y0 := ky.out.cell (i := 0) rfl;have y1 := ky.out.cell (i := 1) rfl;have y2 := ky.out.cell (i := 2) rfl
   go_wp2_with fail
   clear y0 y1 y2
   (((with_reducible refine (I2.out _).mono ?_); rintro e w2 ⟨rfl, hb2⟩); replace HB := Lib.hid (HB.out.trans (hb2.mono HB.out.size)); replace kx := Lib.hid (kx.out.keep hb2); replace ky := Lib.hid (ky.out.keep hb2); replace kz := Lib.hid (kz.out.keep hb2); clear hb2)
   have z0 := kz.out.cell (i := 0) rfl;have z1 := kz.out.cell (i := 1) rfl;have z2 := kz.out.cell (i := 2) rfl;have f0 := kz.out.frozen 0;have f1 := kz.out.frozen 1;have f2 := kz.out.frozen 2
   go_wp2_with fail
   exact bodyPost_ret (v := .agg #[.int .i64 0, .int .i64 0, .int .i64 0]) (by simp [results, Tryz.results75, go_sem, z0, z1, z2]) rfl ⟨rfl, ((HB.out.setCell (by simp <;> omega) _).setCell (by simp <;> omega) _).setCell (by simp <;> omega) _⟩
  | true =>
   rw [h2] at I2
   show Calls _ _ _ _ fun e' w' => e' = .returned (.agg #[.int .i64 (a - d), .int .i64 (b - e), .int .i64 (c - f)]) ∧ _
   rw [n3_iff] at h1 h2;have e1 := sub_wrap h1.1 h2.1;have e2 := sub_wrap h1.2.1 h2.2.1;have e3 := sub_wrap h1.2.2 h2.2.2;clear h1 h2
   go_enter Tryz.func75, Tryz.ntmps75
   go_upto_region 1 with fail
   have hbx := below_new1 w (.cells #[.int .i64 a, .int .i64 b, .int .i64 c] 57)
   have zx : (w.alloc (.cells #[.int .i64 a, .int .i64 b, .int .i64 c] 57)).heap.size = w.heap.size + 1 := by simp
   have HB := Lib.hid hbx;have kx := Lib.hid (Lok.new w 57 #[.int .i64 a, .int .i64 b, .int .i64 c]);clear hbx;generalize w.alloc (.cells #[.int .i64 a, .int .i64 b, .int .i64 c] 57) = Vx at *;have hby := below_new1 Vx (.cells #[.int .i64 d, .int .i64 e, .int .i64 f] 57);replace kx := Lib.hid (kx.out.keep hby)
   have zy : (Vx.alloc (.cells #[.int .i64 d, .int .i64 e, .int .i64 f] 57)).heap.size = Vx.heap.size + 1 := by simp
   replace HB := Lib.hid (HB.out.trans (hby.mono HB.out.size));have ky := Lib.hid (Lok.new Vx 57 #[.int .i64 d, .int .i64 e, .int .i64 f]);clear hby;generalize Vx.alloc (.cells #[.int .i64 d, .int .i64 e, .int .i64 f] 57) = Vy at *;rw [zx] at ky zy;have hbz := below_new1 Vy (.cells #[.int .i64 0, .int .i64 0, .int .i64 0] 57);replace kx := Lib.hid (kx.out.keep hbz);replace ky := Lib.hid (ky.out.keep hbz)
   have zz : (Vy.alloc (.cells #[.int .i64 0, .int .i64 0, .int .i64 0] 57)).heap.size = Vy.heap.size + 1 := by simp
   replace HB := Lib.hid (HB.out.trans (hbz.mono HB.out.size));have kz := Lib.hid (Lok.new Vy 57 #[.int .i64 0, .int .i64 0, .int .i64 0]);clear hbz;generalize Vy.alloc (.cells #[.int .i64 0, .int .i64 0, .int .i64 0] 57) = Vz at *;rw [zy] at kz;clear zx zy zz;have x0 := kx.out.cell (i := 0) rfl;have x1 := kx.out.cell (i := 1) rfl;have x2 := kx.out.cell (i := 2) rfl
   go_wp2_with fail
   clear x0 x1 x2
   (((with_reducible refine (I1.out _).mono ?_); rintro e w1 ⟨rfl, hb1⟩); replace HB := Lib.hid (HB.out.trans (hb1.mono HB.out.size)); replace kx := Lib.hid (kx.out.keep hb1); replace ky := Lib.hid (ky.out.keep hb1); replace kz := Lib.hid (kz.out.keep hb1); clear hb1)
   have y0 := ky.out.cell (i := 0) rfl;have y1 := ky.out.cell (i := 1) rfl;have y2 := ky.out.cell (i := 2) rfl
   go_wp2_with fail
   clear y0 y1 y2
   (((with_reducible refine (I2.out _).mono ?_); rintro e w2 ⟨rfl, hb2⟩); replace HB := Lib.hid (HB.out.trans (hb2.mono HB.out.size)); replace kx := Lib.hid (kx.out.keep hb2); replace ky := Lib.hid (ky.out.keep hb2); replace kz := Lib.hid (kz.out.keep hb2); clear hb2)
   have x0 := kx.out.cell (i := 0) rfl;have x1 := kx.out.cell (i := 1) rfl;have x2 := kx.out.cell (i := 2) rfl;have y0 := ky.out.cell (i := 0) rfl;have y1 := ky.out.cell (i := 1) rfl;have y2 := ky.out.cell (i := 2) rfl;have z0 := kz.out.cell (i := 0) rfl;have z1 := kz.out.cell (i := 1) rfl;have z2 := kz.out.cell (i := 2) rfl;have f0 := kz.out.frozen 0;have f1 := kz.out.frozen 1;have f2 := kz.out.frozen 2
   go_wp2_with fail
   exact bodyPost_ret (v := .agg #[.int .i64 (a - d), .int .i64 (b - e), .int .i64 (c - f)]) (by simp [results, Tryz.results75, go_sem, z0, z1, z2]) rfl ⟨rfl, ((HB.out.setCell (by simp <;> omega) _).setCell (by simp <;> omega) _).setCell (by simp <;> omega) _⟩
set_option maxRecDepth 100000 in
set_option maxHeartbeats 1000000 in
theorem rcross2_any (a b c d : Int) (w : World) :
  Calls Tryz.prog 103 #[.agg #[.int .i64 a, .int .i64 b], .agg #[.int .i64 c, .int .i64 d]] w fun e' w' => e' = .returned (.tuple #[.int .i64 (xF (n2 a b && n2 c d) a b c d), .int .i64 (rE (n2 a b && n2 c d))]) ∧ Below w.heap.size w w' := by
 have HB := Lib.hid (Below.refl w.heap.size w);have I1 := Lib.hid (fun W => ris2_any a b W);have I2 := Lib.hid (fun W => ris2_any c d W)
 cases h1 : n2 a b with
 | false =>
  rw [h1] at I1
  show Calls _ _ _ _ fun e' w' => e' = .returned (.tuple #[.int .i64 0, .int .i64 5]) ∧ _
  clear h1
  go_enter Tryz.func103, Tryz.ntmps103
  go_upto_region 1 with fail
  have hbx := below_new1 w (.cells #[.int .i64 a, .int .i64 b] 36)
  have zx : (w.alloc (.cells #[.int .i64 a, .int .i64 b] 36)).heap.size = w.heap.size + 1 := by simp
  have HB := Lib.hid hbx;have kx := Lib.hid (Lok.new w 36 #[.int .i64 a, .int .i64 b]);clear hbx;generalize w.alloc (.cells #[.int .i64 a, .int .i64 b] 36) = Vx at *;have hby := below_new1 Vx (.cells #[.int .i64 c, .int .i64 d] 36);replace kx := Lib.hid (kx.out.keep hby)
  have zy : (Vx.alloc (.cells #[.int .i64 c, .int .i64 d] 36)).heap.size = Vx.heap.size + 1 := by simp
  replace HB := Lib.hid (HB.out.trans (hby.mono HB.out.size));have ky := Lib.hid (Lok.new Vx 36 #[.int .i64 c, .int .i64 d]);clear hby;generalize Vx.alloc (.cells #[.int .i64 c, .int .i64 d] 36) = Vy at *;rw [zx] at ky;clear zx zy;have x0 := kx.out.cell (i := 0) rfl;have x1 := kx.out.cell (i := 1) rfl
  go_wp2_with fail
  clear x0 x1
  (((with_reducible refine (I1.out _).mono ?_); rintro e w1 ⟨rfl, hb1⟩); replace HB := Lib.hid (HB.out.trans (hb1.mono HB.out.size)); replace kx := Lib.hid (kx.out.keep hb1); replace ky := Lib.hid (ky.out.keep hb1); clear hb1)
  go_wp2
  go_ret2
  exact ⟨rfl, HB.out⟩
 | true =>
  rw [h1] at I1
  cases h2 : n2 c d with
  | false =>
   rw [h2] at I2
   show Calls _ _ _ _ fun e' w' => e' = .returned (.tuple #[.int .i64 0, .int .i64 5]) ∧ _
   clear h1 h2
   go_enter Tryz.func103, Tryz.ntmps103
   go_upto_region 1 with fail
   have hbx := below_new1 w (.cells #[.int .i64 a, .int .i64 b] 36)
   have zx : (w.alloc (.cells #[.int .i64 a, .int .i64 b] 36)).heap.size = w.heap.size + 1 := by simp
   have HB := Lib.hid hbx;have kx := Lib.hid (Lok.new w 36 #[.int .i64 a, .int .i64 b]);clear hbx;generalize w.alloc (.cells #[.int .i64 a, .int .i64 b] 36) = Vx at *;have hby := below_new1 Vx (.cells #[.int .i64 c, .int .i64 d] 36);replace kx := Lib.hid (kx.out.keep hby)
   have zy : (Vx.alloc (.cells #[.int .i64 c, .int .i64 d] 36)).heap.size = Vx.heap.size + 1 := by simp
   replace HB := Lib.hid (HB.out.trans (hby.mono HB.out.size));have ky := Lib.hid (Lok.new Vx 36 #[.int .i64 c, .int .i64 d]);clear hby;generalize Vx.alloc (.cells #[.int .i64 c, .int .i64 d] 36) = Vy at *;rw [zx] at ky;clear zx zy;have x0 := kx.out.cell (i := 0) rfl;have x1 := kx.out.cell (i := 1) rfl
   go_wp2_with fail
   clear x0 x1
   (((with_reducible refine (I1.out _).mono ?_); rintro e w1 ⟨rfl, hb1⟩); replace HB := Lib.hid (HB.out.trans (hb1.mono HB.out.size)); replace kx := Lib.hid (kx.out.keep hb1); replace ky := Lib.hid (ky.out.keep hb1); clear hb1)
   have y0 := ky.out.cell (i := 0) rfl;have y1 := ky.out.cell (i := 1) rfl
   go_wp2_with fail
   clear y0 y1
   (((with_reducible refine (I2.out _).mono ?_); rintro e w2 ⟨rfl, hb2⟩); replace HB := Lib.hid (HB.out.trans (hb2.mono HB.out.size)); replace kx := Lib.hid (kx.out.keep hb2); replace ky := Lib.hid (ky.out.keep hb2); clear hb2)
   go_wp2
   go_ret2
   exact ⟨rfl, HB.out⟩
  | true =>
   rw [h2] at I2
   show Calls _ _ _ _ fun e' w' => e' = .returned (.tuple #[.int .i64 (a * d - b * c), .int .i64 0]) ∧ _
   rw [n2_iff] at h1 h2;obtain ⟨e1, e2, e3⟩ := cross_wraps h1.1 h1.2 h2.1 h2.2;clear h1 h2
   go_enter Tryz.func103, Tryz.ntmps103
   go_upto_region 1 with fail
   have hbx := below_new1 w (.cells #[.int .i64 a, .int .i64 b] 36)
   have zx : (w.alloc (.cells #[.int .i64 a, .int .i64 b] 36)).heap.size = w.heap.size + 1 := by simp
   have HB := Lib.hid hbx;have kx := Lib.hid (Lok.new w 36 #[.int .i64 a, .int .i64 b]);clear hbx;generalize w.alloc (.cells #[.int .i64 a, .int .i64 b] 36) = Vx at *;have hby := below_new1 Vx (.cells #[.int .i64 c, .int .i64 d] 36);replace kx := Lib.hid (kx.out.keep hby)
   have zy : (Vx.alloc (.cells #[.int .i64 c, .int .i64 d] 36)).heap.size = Vx.heap.size + 1 := by simp
   replace HB := Lib.hid (HB.out.trans (hby.mono HB.out.size));have ky := Lib.hid (Lok.new Vx 36 #[.int .i64 c, .int .i64 d]);clear hby;generalize Vx.alloc (.cells #[.int .i64 c, .int .i64 d] 36) = Vy at *;rw [zx] at ky;clear zx zy;have x0 := kx.out.cell (i := 0) rfl;have x1 := kx.out.cell (i := 1) rfl
   go_wp2_with fail
   clear x0 x1
   (((with_reducible refine (I1.out _).mono ?_); rintro e w1 ⟨rfl, hb1⟩); replace HB := Lib.hid (HB.out.trans (hb1.mono HB.out.size)); replace kx := Lib.hid (kx.out.keep hb1); replace ky := Lib.hid (ky.out.keep hb1); clear hb1)
   have y0 := ky.out.cell (i := 0) rfl;have y1 := ky.out.cell (i := 1) rfl
   go_wp2_with fail
   clear y0 y1
   (((with_reducible refine (I2.out _).mono ?_); rintro e w2 ⟨rfl, hb2⟩); replace HB := Lib.hid (HB.out.trans (hb2.mono HB.out.size)); replace kx := Lib.hid (kx.out.keep hb2); replace ky := Lib.hid (ky.out.keep hb2); clear hb2)
   have x0 := kx.out.cell (i := 0) rfl;have x1 := kx.out.cell (i := 1) rfl;have y0 := ky.out.cell (i := 0) rfl;have y1 := ky.out.cell (i := 1) rfl
   go_wp2
   go_ret2
   exact ⟨rfl, HB.out⟩
set_option maxRecDepth 100000 in
set_option maxHeartbeats 1000000 in
theorem rcross3_any (a b c d e f : Int) (w : World) :
  Calls Tryz.prog 74 #[.agg #[.int .i64 a, .int .i64 b, .int .i64 c], .agg #[.int .i64 d, .int .i64 e, .int .i64 f]] w fun e' w' => e' = .returned (.tuple #[.agg #[.int .i64 (xF (n3 a b c && n3 d e f) b c e f), .int .i64 (xF (n3 a b c && n3 d e f) c a f d), .int .i64 (xF (n3 a b c && n3 d e f) a b d e)], .int .i64 (rE (n3 a b c && n3 d e f))]) ∧ Below w.heap.size w w' := by
 have HB := Lib.hid (Below.refl w.heap.size w);have I1 := Lib.hid (fun W => ris3_any a b c W);have I2 := Lib.hid (fun W => ris3_any d e f W)
 cases h1 : n3 a b c with
 | false =>
  rw [h1] at I1
  show Calls _ _ _ _ fun e' w' => e' = .returned (.tuple #[.agg #[.int .i64 0, .int .i64 0, .int .i64 0], .int .i64 5]) ∧ _
  clear h1
  go_enter Tryz.func74, Tryz.ntmps74
  go_upto_region 1 with fail
  have hbx := below_new1 w (.cells #[.int .i64 a, .int .i64 b, .int .i64 c] 57)
  have zx : (w.alloc (.cells #[.int .i64 a, .int .i64 b, .int .i64 c] 57)).heap.size = w.heap.size + 1 := by simp
  have HB := Lib.hid hbx;have kx := Lib.hid (Lok.new w 57 #[.int .i64 a, .int .i64 b, .int .i64 c]);clear hbx;generalize w.alloc (.cells #[.int .i64 a, .int .i64 b, .int .i64 c] 57) = Vx at *;have hby := below_new1 Vx (.cells #[.int .i64 d, .int .i64 e, .int .i64 f] 57);replace kx := Lib.hid (kx.out.keep hby)
  have zy : (Vx.alloc (.cells #[.int .i64 d, .int .i64 e, .int .i64 f] 57)).heap.size = Vx.heap.size + 1 := by simp
  replace HB := Lib.hid (HB.out.trans (hby.mono HB.out.size));have ky := Lib.hid (Lok.new Vx 57 #[.int .i64 d, .int .i64 e, .int .i64 f]);clear hby;generalize Vx.alloc (.cells #[.int .i64 d, .int .i64 e, .int .i64 f] 57) = Vy at *;rw [zx] at ky zy;have hbz := below_new1 Vy (.cells #[.int .i64 0, .int .i64 0, .int .i64 0] 57);replace kx := Lib.hid (kx.out.keep hbz);replace ky := Lib.hid (ky.out.keep hbz)
  have zz : (Vy.alloc (.cells #[.int .i64 0, .int .i64 0, .int .i64 0] 57)).heap.size = Vy.heap.size + 1 := by simp
  replace HB := Lib.hid (HB.out.trans (hbz.mono HB.out.size));have kz := Lib.hid (Lok.new Vy 57 #[.int .i64 0, .int .i64 0, .int .i64 0]);clear hbz;generalize Vy.alloc (.cells #[.int .i64 0, .int .i64 0, .int .i64 0] 57) = Vz at *;rw [zy] at kz;clear zx zy zz;have x0 := kx.out.cell (i := 0) rfl;have x1 := kx.out.cell (i := 1) rfl;have x2 := kx.out.cell (i := 2) rfl
  go_wp2_with fail
  clear x0 x1 x2
  (((with_reducible refine (I1.out _).mono ?_); rintro e w1 ⟨rfl, hb1⟩); replace HB := Lib.hid (HB.out.trans (hb1.mono HB.out.size)); replace kx := Lib.hid (kx.out.keep hb1); replace ky := Lib.hid (ky.out.keep hb1); replace kz := Lib.hid (kz.out.keep hb1); clear hb1)
  have z0 := kz.out.cell (i := 0) rfl;have z1 := kz.out.cell (i := 1) rfl;have z2 := kz.out.cell (i := 2) rfl;have f0 := kz.out.frozen 0;have f1 := kz.out.frozen 1;have f2 := kz.out.frozen 2
  go_wp2_with fail
  exact bodyPost_ret (v := .tuple #[.agg #[.int .i64 0, .int .i64 0, .int .i64 0], .int .i64 5]) (by simp [results, Tryz.results74, go_sem, z0, z1, z2]) rfl ⟨rfl, ((HB.out.setCell (by simp <;> omega) _).setCell (by simp <;> omega) _).setCell (by simp <;> omega) _⟩
 | true =>
  rw [h1] at I1
  cases h2 : n3 d e f with
  | false =>
   rw [h2] at I2
   show Calls _ _ _ _ fun e' w' => e' = .returned (.tuple #[.agg #[.int .i64 0, .int .i64 0, .int .i64 0], .int .i64 5]) ∧ _
   clear h1 h2
   go_enter Tryz.func74, Tryz.ntmps74
   go_upto_region 1 with fail
   have hbx := below_new1 w (.cells #[.int .i64 a, .int .i64 b, .int .i64 c] 57)
   have zx : (w.alloc (.cells #[.int .i64 a, .int .i64 b, .int .i64 c] 57)).heap.size = w.heap.size + 1 := by simp
   have HB := Lib.hid hbx;have kx := Lib.hid (Lok.new w 57 #[.int .i64 a, .int .i64 b, .int .i64 c]);clear hbx;generalize w.alloc (.cells #[.int .i64 a, .int .i64 b, .int .i64 c] 57) = Vx at *;have hby := below_new1 Vx (.cells #[.int .i64 d, .int .i64 e, .int .i64 f] 57);replace kx := Lib.hid (kx.out.keep hby)
   have zy : (Vx.alloc (.cells #[.int .i64 d, .int .i64 e, .int .i64 f] 57)).heap.size = Vx.heap.size + 1 := by simp
   replace HB := Lib.hid (HB.out.trans (hby.mono HB.out.size));have ky := Lib.hid (Lok.new Vx 57 #[.int .i64 d, .int .i64 e, .int .i64 f]);clear hby;generalize Vx.alloc (.cells #[.int .i64 d, .int .i64 e, .int .i64 f] 57) = Vy at *;rw [zx] at ky zy;have hbz := below_new1 Vy (.cells #[.int .i64 0, .int .i64 0, .int .i64 0] 57);replace kx := Lib.hid (kx.out.keep hbz);replace ky := Lib.hid (ky.out.keep hbz)
   have zz : (Vy.alloc (.cells #[.int .i64 0, .int .i64 0, .int .i64 0] 57)).heap.size = Vy.heap.size + 1 := by simp
   replace HB := Lib.hid (HB.out.trans (hbz.mono HB.out.size));have kz := Lib.hid (Lok.new Vy 57 #[.int .i64 0, .int .i64 0, .int .i64 0]);clear hbz;generalize Vy.alloc (.cells #[.int .i64 0, .int .i64 0, .int .i64 0] 57) = Vz at *;rw [zy] at kz;clear zx zy zz;have x0 := kx.out.cell (i := 0) rfl;have x1 := kx.out.cell (i := 1) rfl;have x2 := kx.out.cell (i := 2) rfl
   go_wp2_with fail
   clear x0 x1 x2
   (((with_reducible refine (I1.out _).mono ?_); rintro e w1 ⟨rfl, hb1⟩); replace HB := Lib.hid (HB.out.trans (hb1.mono HB.out.size)); replace kx := Lib.hid (kx.out.keep hb1); replace ky := Lib.hid (ky.out.keep hb1); replace kz := Lib.hid (kz.out.keep hb1); clear hb1)
   have y0 := ky.out.cell (i := 0) rfl;have y1 := ky.out.cell (i := 1) rfl;have y2 := ky.out.cell (i := 2) rfl
   go_wp2_with fail
   clear y0 y1 y2
   (((with_reducible refine (I2.out _).mono ?_); rintro e w2 ⟨rfl, hb2⟩); replace HB := Lib.hid (HB.out.trans (hb2.mono HB.out.size)); replace kx := Lib.hid (kx.out.keep hb2); replace ky := Lib.hid (ky.out.keep hb2); replace kz := Lib.hid (kz.out.keep hb2); clear hb2)
   have z0 := kz.out.cell (i := 0) rfl;have z1 := kz.out.cell (i := 1) rfl;have z2 := kz.out.cell (i := 2) rfl;have f0 := kz.out.frozen 0;have f1 := kz.out.frozen 1;have f2 := kz.out.frozen 2
   go_wp2_with fail
   exact bodyPost_ret (v := .tuple #[.agg #[.int .i64 0, .int .i64 0, .int .i64 0], .int .i64 5]) (by simp [results, Tryz.results74, go_sem, z0, z1, z2]) rfl ⟨rfl, ((HB.out.setCell (by simp <;> omega) _).setCell (by simp <;> omega) _).setCell (by simp <;> omega) _⟩
  | true =>
   rw [h2] at I2
   show Calls _ _ _ _ fun e' w' => e' = .returned (.tuple #[.agg #[.int .i64 (b * f - c * e), .int .i64 (c * d - a * f), .int .i64 (a * e - b * d)], .int .i64 0]) ∧ _
   rw [n3_iff] at h1 h2;obtain ⟨e1, e2, e3⟩ := cross_wraps h1.2.1 h1.2.2 h2.2.1 h2.2.2;obtain ⟨e4, e5, e6⟩ := cross_wraps h1.2.2 h1.1 h2.2.2 h2.1;obtain ⟨e7, e8, e9⟩ := cross_wraps h1.1 h1.2.1 h2.1 h2.2.1;clear h1 h2
   go_enter Tryz.func74, Tryz.ntmps74
   go_upto_region 1 with fail
   have hbx := below_new1 w (.cells #[.int .i64 a, .int .i64 b, .int .i64 c] 57)
   have zx : (w.alloc (.cells #[.int .i64 a, .int .i64 b, .int .i64 c] 57)).heap.size = w.heap.size + 1 := by simp
   have HB := Lib.hid hbx;have kx := Lib.hid (Lok.new w 57 #[.int .i64 a, .int .i64 b, .int .i64 c]);clear hbx;generalize w.alloc (.cells #[.int .i64 a, .int .i64 b, .int .i64 c] 57) = Vx at *;have hby := below_new1 Vx (.cells #[.int .i64 d, .int .i64 e, .int .i64 f] 57);replace kx := Lib.hid (kx.out.keep hby)
   have zy : (Vx.alloc (.cells #[.int .i64 d, .int .i64 e, .int .i64 f] 57)).heap.size = Vx.heap.size + 1 := by simp
   replace HB := Lib.hid (HB.out.trans (hby.mono HB.out.size));have ky := Lib.hid (Lok.new Vx 57 #[.int .i64 d, .int .i64 e, .int .i64 f]);clear hby;generalize Vx.alloc (.cells #[.int .i64 d, .int .i64 e, .int .i64 f] 57) = Vy at *;rw [zx] at ky zy;have hbz := below_new1 Vy (.cells #[.int .i64 0, .int .i64 0, .int .i64 0] 57);replace kx := Lib.hid (kx.out.keep hbz);replace ky := Lib.hid (ky.out.keep hbz)
   have zz : (Vy.alloc (.cells #[.int .i64 0, .int .i64 0, .int .i64 0] 57)).heap.size = Vy.heap.size + 1 := by simp
   replace HB := Lib.hid (HB.out.trans (hbz.mono HB.out.size));have kz := Lib.hid (Lok.new Vy 57 #[.int .i64 0, .int .i64 0, .int .i64 0]);clear hbz;generalize Vy.alloc (.cells #[.int .i64 0, .int .i64 0, .int .i64 0] 57) = Vz at *;rw [zy] at kz;clear zx zy zz;have x0 := kx.out.cell (i := 0) rfl;have x1 := kx.out.cell (i := 1) rfl;have x2 := kx.out.cell (i := 2) rfl
   go_wp2_with fail
   clear x0 x1 x2
   (((with_reducible refine (I1.out _).mono ?_); rintro e w1 ⟨rfl, hb1⟩); replace HB := Lib.hid (HB.out.trans (hb1.mono HB.out.size)); replace kx := Lib.hid (kx.out.keep hb1); replace ky := Lib.hid (ky.out.keep hb1); replace kz := Lib.hid (kz.out.keep hb1); clear hb1)
   have y0 := ky.out.cell (i := 0) rfl;have y1 := ky.out.cell (i := 1) rfl;have y2 := ky.out.cell (i := 2) rfl
   go_wp2_with fail
   clear y0 y1 y2
   (((with_reducible refine (I2.out _).mono ?_); rintro e w2 ⟨rfl, hb2⟩); replace HB := Lib.hid (HB.out.trans (hb2.mono HB.out.size)); replace kx := Lib.hid (kx.out.keep hb2); replace ky := Lib.hid (ky.out.keep hb2); replace kz := Lib.hid (kz.out.keep hb2); clear hb2)
   have x0 := kx.out.cell (i := 0) rfl;have x1 := kx.out.cell (i := 1) rfl;have x2 := kx.out.cell (i := 2) rfl;have y0 := ky.out.cell (i := 0) rfl;have y1 := ky.out.cell (i := 1) rfl;have y2 := ky.out.cell (i := 2) rfl;have z0 := kz.out.cell (i := 0) rfl;have z1 := kz.out.cell (i := 1) rfl;have z2 := kz.out.cell (i := 2) rfl;have f0 := kz.out.frozen 0;have f1 := kz.out.frozen 1;have f2 := kz.out.frozen 2
   go_wp2_with fail
   exact bodyPost_ret (v := .tuple #[.agg #[.int .i64 (b * f - c * e), .int .i64 (c * d - a * f), .int .i64 (a * e - b * d)], .int .i64 0]) (by simp [results, Tryz.results74, go_sem, z0, z1, z2]) rfl ⟨rfl, ((HB.out.setCell (by simp <;> omega) _).setCell (by simp <;> omega) _).setCell (by simp <;> omega) _⟩
end Go.Proofs.YtcnbbanpnoigdaaGreat
namespace Go.Proofs.YtcnbbanpnoigdaaGreat
open Go.RowKit

set_option maxHeartbeats 1000000 in
theorem side_any (n : Int) (w : World) :
  Calls Tryz.prog 71 #[.int .i64 n] w fun e w' => e = .returned (.int .i64 (ordI n 0)) ∧ Below w.heap.size w w' := by
 have HB := Lib.hid (Below.refl w.heap.size w);have C := Lib.hid (fun W => compare_int n 0 W)
 go_enter Tryz.func71, Tryz.ntmps71
 go_wp2_with fail
 (((with_reducible refine (C.out _).mono ?_); rintro e w1 ⟨rfl, hb1⟩); replace HB := Lib.hid (HB.out.trans (hb1.mono HB.out.size)); clear hb1)
 go_wp2
 go_ret
 exact ⟨rfl, HB.out⟩

theorem sub2_sm {a b c d : Int} (h : s2 a b = true) (k : s2 c d = true) (w : World) :
  Calls Tryz.prog 140 #[.agg #[.int .i64 c, .int .i64 d], .agg #[.int .i64 a, .int .i64 b]] w fun e w' => e = .returned (.agg #[.int .i64 (c - a), .int .i64 (d - b)]) ∧ Below w.heap.size w w' := by
 have q := sub2_any c d a b w;rw [n2_of h, n2_of k] at q
 exact q
theorem cross2_sm {a1 a2 b1 b2 c1 c2 : Int} (ha : s2 a1 a2 = true) (hb : s2 b1 b2 = true) (hc : s2 c1 c2 = true) (w : World) :
  Calls Tryz.prog 139 #[.agg #[.int .i64 (b1 - a1), .int .i64 (b2 - a2)], .agg #[.int .i64 (c1 - a1), .int .i64 (c2 - a2)]] w fun e w' => e = .returned (.tuple #[.int .i64 (ar a1 a2 b1 b2 c1 c2), .int .i64 0]) ∧ Below w.heap.size w w' := by
 have q := cross2_any (b1 - a1) (b2 - a2) (c1 - a1) (c2 - a2) w;rw [n2_d ha hb, n2_d ha hc] at q
 exact q
theorem rsub2_sm {a b c d : Int} (h : s2 a b = true) (k : s2 c d = true) (w : World) :
  Calls Tryz.prog 104 #[.agg #[.int .i64 c, .int .i64 d], .agg #[.int .i64 a, .int .i64 b]] w fun e w' => e = .returned (.agg #[.int .i64 (c - a), .int .i64 (d - b)]) ∧ Below w.heap.size w w' := by
 have q := rsub2_any c d a b w;rw [n2_of h, n2_of k] at q
 exact q
theorem rcross2_sm {a1 a2 b1 b2 c1 c2 : Int} (ha : s2 a1 a2 = true) (hb : s2 b1 b2 = true) (hc : s2 c1 c2 = true) (w : World) :
  Calls Tryz.prog 103 #[.agg #[.int .i64 (b1 - a1), .int .i64 (b2 - a2)], .agg #[.int .i64 (c1 - a1), .int .i64 (c2 - a2)]] w fun e w' => e = .returned (.tuple #[.int .i64 (ar a1 a2 b1 b2 c1 c2), .int .i64 0]) ∧ Below w.heap.size w w' := by
 have q := rcross2_any (b1 - a1) (b2 - a2) (c1 - a1) (c2 - a2) w;rw [n2_d ha hb, n2_d ha hc] at q
 exact q

set_option maxRecDepth 100000 in
set_option maxHeartbeats 4000000 in
theorem plane_any (a1 a2 b1 b2 c1 c2 : Int) (t : Bool) (ht : (s2 a1 a2 && s2 b1 b2 && s2 c1 c2) = t) (w : World) :
  Calls Tryz.prog 134 #[.agg #[.int .i64 a1, .int .i64 a2, .int .i64 b1, .int .i64 b2, .int .i64 c1, .int .i64 c2]] w fun e' w' => e' = .returned (.tuple #[.int .i64 (vF t (ar a1 a2 b1 b2 c1 c2)), .int .i64 (rE t)]) ∧ Below w.heap.size w w' := by
 have HB := Lib.hid (Below.refl w.heap.size w);have S := Lib.hid (fun g T W h => small2_3 a1 a2 b1 b2 c1 c2 t ht g T W h)
 cases t with
 | false =>
  rw [vF_no, show rE false = 5 from rfl];clear ht
  go_enter Tryz.func134, Tryz.ntmps134
  go_upto_region 1 with fail
  have hbx := below_new1 w (.cells #[.int .i64 a1, .int .i64 a2, .int .i64 b1, .int .i64 b2, .int .i64 c1, .int .i64 c2] 173)
  have zx : (w.alloc (.cells #[.int .i64 a1, .int .i64 a2, .int .i64 b1, .int .i64 b2, .int .i64 c1, .int .i64 c2] 173)).heap.size = w.heap.size + 1 := by simp
  have HB := Lib.hid hbx;have kx := Lib.hid (Lok.new w 173 #[.int .i64 a1, .int .i64 a2, .int .i64 b1, .int .i64 b2, .int .i64 c1, .int .i64 c2]);clear hbx;generalize w.alloc (.cells #[.int .i64 a1, .int .i64 a2, .int .i64 b1, .int .i64 b2, .int .i64 c1, .int .i64 c2] 173) = Vx at *;clear zx
  go_wp2_with fail
  (((with_reducible refine (S.out _ _ _ kx.out).mono ?_); rintro e w1 ⟨rfl, hb1⟩); replace HB := Lib.hid (HB.out.trans (hb1.mono HB.out.size)); replace kx := Lib.hid (kx.out.keep hb1); clear hb1)
  go_wp2
  go_ret2
  exact ⟨rfl, HB.out⟩
 | true =>
  rw [vF_yes, show rE true = 0 from rfl];rw [Bool.and_eq_true, Bool.and_eq_true] at ht;obtain ⟨⟨ha, hb⟩, hc⟩ := ht;have U1 := Lib.hid (fun W => sub2_sm ha hb W);have U2 := Lib.hid (fun W => sub2_sm ha hc W);have X := Lib.hid (fun W => cross2_sm ha hb hc W);generalize ar a1 a2 b1 b2 c1 c2 = n at *;clear ha hb hc
  go_enter Tryz.func134, Tryz.ntmps134
  go_upto_region 1 with fail
  have hbx := below_new1 w (.cells #[.int .i64 a1, .int .i64 a2, .int .i64 b1, .int .i64 b2, .int .i64 c1, .int .i64 c2] 173)
  have zx : (w.alloc (.cells #[.int .i64 a1, .int .i64 a2, .int .i64 b1, .int .i64 b2, .int .i64 c1, .int .i64 c2] 173)).heap.size = w.heap.size + 1 := by simp
  have HB := Lib.hid hbx;have kx := Lib.hid (Lok.new w 173 #[.int .i64 a1, .int .i64 a2, .int .i64 b1, .int .i64 b2, .int .i64 c1, .int .i64 c2]);clear hbx;generalize w.alloc (.cells #[.int .i64 a1, .int .i64 a2, .int .i64 b1, .int .i64 b2, .int .i64 c1, .int .i64 c2] 173) = Vx at *;clear zx
  go_wp2_with fail
  (((with_reducible refine (S.out _ _ _ kx.out).mono ?_); rintro e w1 ⟨rfl, hb1⟩); replace HB := Lib.hid (HB.out.trans (hb1.mono HB.out.size)); replace kx := Lib.hid (kx.out.keep hb1); clear hb1)
  clear S
  go_upto_region 3 with fail
  have qx0 : ∀ D : Of (PastV w1), _ := fun D => (kx.out.keep (show Below w1.heap.size w1 D.world from D.holds)).cell (i := 0) rfl;have qx1 : ∀ D : Of (PastV w1), _ := fun D => (kx.out.keep (show Below w1.heap.size w1 D.world from D.holds)).cell (i := 1) rfl;have qx2 : ∀ D : Of (PastV w1), _ := fun D => (kx.out.keep (show Below w1.heap.size w1 D.world from D.holds)).cell (i := 2) rfl;have qx3 : ∀ D : Of (PastV w1), _ := fun D => (kx.out.keep (show Below w1.heap.size w1 D.world from D.holds)).cell (i := 3) rfl;have qx4 : ∀ D : Of (PastV w1), _ := fun D => (kx.out.keep (show Below w1.heap.size w1 D.world from D.holds)).cell (i := 4) rfl;have qx5 : ∀ D : Of (PastV w1), _ := fun D => (kx.out.keep (show Below w1.heap.size w1 D.world from D.holds)).cell (i := 5) rfl;have ST := Lib.hid (pastV_stays w1);have ne : Nonempty (Of (PastV w1)) := ⟨⟨w1, Below.refl _ _⟩⟩
  refine wp_region_class (S := PastV w1) (by kernel_rfl) (by kernel_rfl) (Below.refl _ _).drew ?_
  repeat (go_big_quiet_step (first | (go_at_call 140; first | (with_reducible exact class_call ST.out _ (U1.out _)) | (with_reducible exact class_call ST.out _ (U2.out _))) | (go_at_call 139; first | (with_reducible exact class_call ST.out _ (X.out _)))))
  refine wpQuiet_nil ?_
  rintro _ ⟨D, rfl⟩
  have hD : Below w1.heap.size w1 D.world := D.holds;replace HB := Lib.hid (HB.out.trans (hD.mono HB.out.size));replace kx := Lib.hid (kx.out.keep hD);generalize D.world = vd at *;clear qx0 qx1 qx2 qx3 qx4 qx5 ne ST hD
  go_wp2
  go_ret2
  exact ⟨rfl, HB.out⟩
set_option maxRecDepth 100000 in
set_option maxHeartbeats 4000000 in
theorem area_any (a1 a2 b1 b2 c1 c2 : Int) (t : Bool) (ht : (s2 a1 a2 && s2 b1 b2 && s2 c1 c2) = t) (w : World) :
  Calls Tryz.prog 131 #[.agg #[.int .i64 a1, .int .i64 a2], .agg #[.int .i64 b1, .int .i64 b2], .agg #[.int .i64 c1, .int .i64 c2]] w fun e' w' => e' = .returned (.tuple #[.int .i64 (vF t (ar a1 a2 b1 b2 c1 c2)), .int .i64 (rE t)]) ∧ Below w.heap.size w w' := by
 have HB := Lib.hid (Below.refl w.heap.size w);have P := Lib.hid (fun W => plane_any a1 a2 b1 b2 c1 c2 t ht W);generalize vF t (ar a1 a2 b1 b2 c1 c2) = n at *;generalize rE t = e0 at *;clear ht
 go_enter Tryz.func131, Tryz.ntmps131
 go_upto_region 1 with fail
 have hbx := below_new1 w (.cells #[.int .i64 a1, .int .i64 a2] 36)
 have zx : (w.alloc (.cells #[.int .i64 a1, .int .i64 a2] 36)).heap.size = w.heap.size + 1 := by simp
 have HB := Lib.hid hbx;have kx := Lib.hid (Lok.new w 36 #[.int .i64 a1, .int .i64 a2]);clear hbx;generalize w.alloc (.cells #[.int .i64 a1, .int .i64 a2] 36) = Vx at *;have hby := below_new1 Vx (.cells #[.int .i64 b1, .int .i64 b2] 36);replace kx := Lib.hid (kx.out.keep hby)
 have zy : (Vx.alloc (.cells #[.int .i64 b1, .int .i64 b2] 36)).heap.size = Vx.heap.size + 1 := by simp
 replace HB := Lib.hid (HB.out.trans (hby.mono HB.out.size));have ky := Lib.hid (Lok.new Vx 36 #[.int .i64 b1, .int .i64 b2]);clear hby;generalize Vx.alloc (.cells #[.int .i64 b1, .int .i64 b2] 36) = Vy at *;rw [zx] at ky zy;have hbz := below_new1 Vy (.cells #[.int .i64 c1, .int .i64 c2] 36);replace kx := Lib.hid (kx.out.keep hbz);replace ky := Lib.hid (ky.out.keep hbz)
 have zz : (Vy.alloc (.cells #[.int .i64 c1, .int .i64 c2] 36)).heap.size = Vy.heap.size + 1 := by simp
 replace HB := Lib.hid (HB.out.trans (hbz.mono HB.out.size));have kz := Lib.hid (Lok.new Vy 36 #[.int .i64 c1, .int .i64 c2]);clear hbz;generalize Vy.alloc (.cells #[.int .i64 c1, .int .i64 c2] 36) = Vz at *;rw [zy] at kz;clear zx zy zz;have x0 := kx.out.cell (i := 0) rfl;have x1 := kx.out.cell (i := 1) rfl;have y0 := ky.out.cell (i := 0) rfl;have y1 := ky.out.cell (i := 1) rfl;have z0 := kz.out.cell (i := 0) rfl;have z1 := kz.out.cell (i := 1) rfl
 go_wp2_with fail
 clear x0 x1 y0 y1 z0 z1
 (((with_reducible refine (P.out _).mono ?_); rintro e w1 ⟨rfl, hb1⟩); replace HB := Lib.hid (HB.out.trans (hb1.mono HB.out.size)); clear hb1)
 go_wp2
 go_ret2
 exact ⟨rfl, HB.out⟩
set_option maxRecDepth 100000 in
set_option maxHeartbeats 4000000 in
theorem sideOf_any (a1 a2 b1 b2 c1 c2 : Int) (t : Bool) (ht : (s2 a1 a2 && s2 b1 b2 && s2 c1 c2) = t) (w : World) :
  Calls Tryz.prog 136 #[.agg #[.int .i64 a1, .int .i64 a2], .agg #[.int .i64 b1, .int .i64 b2], .agg #[.int .i64 c1, .int .i64 c2]] w fun e' w' => e' = .returned (.tuple #[.int .i64 (ordI (vF t (ar a1 a2 b1 b2 c1 c2)) 0), .int .i64 (rE t)]) ∧ Below w.heap.size w w' := by
 have HB := Lib.hid (Below.refl w.heap.size w);have P := Lib.hid (fun W => plane_any a1 a2 b1 b2 c1 c2 t ht W);generalize vF t (ar a1 a2 b1 b2 c1 c2) = n at *;generalize rE t = e0 at *;have Q := Lib.hid (fun W => side_any n W);generalize ordI n 0 = s at *;clear ht
 go_enter Tryz.func136, Tryz.ntmps136
 go_upto_region 1 with fail
 have hbx := below_new1 w (.cells #[.int .i64 a1, .int .i64 a2] 36)
 have zx : (w.alloc (.cells #[.int .i64 a1, .int .i64 a2] 36)).heap.size = w.heap.size + 1 := by simp
 have HB := Lib.hid hbx;have kx := Lib.hid (Lok.new w 36 #[.int .i64 a1, .int .i64 a2]);clear hbx;generalize w.alloc (.cells #[.int .i64 a1, .int .i64 a2] 36) = Vx at *;have hby := below_new1 Vx (.cells #[.int .i64 b1, .int .i64 b2] 36);replace kx := Lib.hid (kx.out.keep hby)
 have zy : (Vx.alloc (.cells #[.int .i64 b1, .int .i64 b2] 36)).heap.size = Vx.heap.size + 1 := by simp
 replace HB := Lib.hid (HB.out.trans (hby.mono HB.out.size));have ky := Lib.hid (Lok.new Vx 36 #[.int .i64 b1, .int .i64 b2]);clear hby;generalize Vx.alloc (.cells #[.int .i64 b1, .int .i64 b2] 36) = Vy at *;rw [zx] at ky zy;have hbz := below_new1 Vy (.cells #[.int .i64 c1, .int .i64 c2] 36);replace kx := Lib.hid (kx.out.keep hbz);replace ky := Lib.hid (ky.out.keep hbz)
 have zz : (Vy.alloc (.cells #[.int .i64 c1, .int .i64 c2] 36)).heap.size = Vy.heap.size + 1 := by simp
 replace HB := Lib.hid (HB.out.trans (hbz.mono HB.out.size));have kz := Lib.hid (Lok.new Vy 36 #[.int .i64 c1, .int .i64 c2]);clear hbz;generalize Vy.alloc (.cells #[.int .i64 c1, .int .i64 c2] 36) = Vz at *;rw [zy] at kz;clear zx zy zz;have x0 := kx.out.cell (i := 0) rfl;have x1 := kx.out.cell (i := 1) rfl;have y0 := ky.out.cell (i := 0) rfl;have y1 := ky.out.cell (i := 1) rfl;have z0 := kz.out.cell (i := 0) rfl;have z1 := kz.out.cell (i := 1) rfl
 go_wp2_with fail
 clear x0 x1 y0 y1 z0 z1
 (((with_reducible refine (P.out _).mono ?_); rintro e w1 ⟨rfl, hb1⟩); replace HB := Lib.hid (HB.out.trans (hb1.mono HB.out.size)); clear hb1)
 go_wp2_with fail
 (((with_reducible refine (Q.out _).mono ?_); rintro e w2 ⟨rfl, hb2⟩); replace HB := Lib.hid (HB.out.trans (hb2.mono HB.out.size)); clear hb2)
 go_wp2
 go_ret2
 exact ⟨rfl, HB.out⟩
end Go.Proofs.YtcnbbanpnoigdaaGreat
namespace Go.Proofs.YtcnbbanpnoigdaaGreat
open Go.RowKit

def cX (a b c d e f : Int) (k : Nat) : Int := dX a b c k * dY d e f k - dY a b c k * dX d e f k
def cV (a b c d e f : Int) (k j : Nat) : Int := if j < k then cX a b c d e f j else 0
def cC (a b c d e f : Int) (k : Nat) : Array Value := #[.int .i64 (cV a b c d e f k 0), .int .i64 (cV a b c d e f k 1), .int .i64 (cV a b c d e f k 2)]
theorem cC_set (a b c d e f : Int) {k : Nat} (h : k < 3) : (cC a b c d e f k).setIfInBounds k (.int .i64 (cX a b c d e f k)) = cC a b c d e f (k + 1) := by
 rcases show k = 0 ∨ k = 1 ∨ k = 2 by omega with rfl | rfl | rfl <;> simp [cC, cV]
theorem cC_at (a b c d e f : Int) {k : Nat} (h : k < 3) : (cC a b c d e f k)[k]? = some (.int .i64 0) := by
 rcases show k = 0 ∨ k = 1 ∨ k = 2 by omega with rfl | rfl | rfl <;> simp [cC, cV]
theorem cC_0 (a b c d e f : Int) : cC a b c d e f 0 = #[.int .i64 0, .int .i64 0, .int .i64 0] := by simp [cC, cV]
theorem cC_3 (a b c d e f : Int) : cC a b c d e f 3 = #[.int .i64 (b * f - c * e), .int .i64 (c * d - a * f), .int .i64 (a * e - b * d)] := by simp [cC, cV, cX, dX, dY, pt]
theorem drop_near {a b c : Int} (ha : NR a) (hb : NR b) (hc : NR c) (k : Nat) : n2 (dX a b c k) (dY a b c k) = true := n2_iff.2 ⟨pt_near ha hb hc _, pt_near ha hb hc _⟩

set_option maxRecDepth 100000 in
set_option maxHeartbeats 4000000 in
theorem cross3_any (a b c d e f : Int) (w : World) :
  Calls Tryz.prog 93 #[.agg #[.int .i64 a, .int .i64 b, .int .i64 c], .agg #[.int .i64 d, .int .i64 e, .int .i64 f]] w fun e' w' => e' = .returned (.tuple #[.agg #[.int .i64 (xF (n3 a b c && n3 d e f) b c e f), .int .i64 (xF (n3 a b c && n3 d e f) c a f d), .int .i64 (xF (n3 a b c && n3 d e f) a b d e)], .int .i64 (rE (n3 a b c && n3 d e f))]) ∧ Below w.heap.size w w' := by
 have HB := Lib.hid (Below.refl w.heap.size w)
 cases ht : n3 a b c && n3 d e f with
 | false =>
  have I := Lib.hid (fun g T W h => is3_b a b c d e f false ht g T W h);rw [show xF false b c e f = 0 from rfl, show xF false c a f d = 0 from rfl, show xF false a b d e = 0 from rfl, show rE false = 5 from rfl];clear ht
  go_enter Tryz.func93, Tryz.ntmps93
  go_upto_region 1 with fail
  have hbx := below_new1 w (.cells #[.int .i64 a, .int .i64 b, .int .i64 c] 57)
  have zx : (w.alloc (.cells #[.int .i64 a, .int .i64 b, .int .i64 c] 57)).heap.size = w.heap.size + 1 := by simp
  have HB := Lib.hid hbx;have kx := Lib.hid (Lok.new w 57 #[.int .i64 a, .int .i64 b, .int .i64 c]);clear hbx;generalize w.alloc (.cells #[.int .i64 a, .int .i64 b, .int .i64 c] 57) = Vx at *;have hby := below_new1 Vx (.cells #[.int .i64 d, .int .i64 e, .int .i64 f] 57);replace kx := Lib.hid (kx.out.keep hby)
  have zy : (Vx.alloc (.cells #[.int .i64 d, .int .i64 e, .int .i64 f] 57)).heap.size = Vx.heap.size + 1 := by simp
  replace HB := Lib.hid (HB.out.trans (hby.mono HB.out.size));have ky := Lib.hid (Lok.new Vx 57 #[.int .i64 d, .int .i64 e, .int .i64 f]);clear hby;generalize Vx.alloc (.cells #[.int .i64 d, .int .i64 e, .int .i64 f] 57) = Vy at *;rw [zx] at ky zy;have hbz := below_new1 Vy (.cells #[.int .i64 0, .int .i64 0, .int .i64 0] 57);replace kx := Lib.hid (kx.out.keep hbz);replace ky := Lib.hid (ky.out.keep hbz)
  have zz : (Vy.alloc (.cells #[.int .i64 0, .int .i64 0, .int .i64 0] 57)).heap.size = Vy.heap.size + 1 := by simp
  replace HB := Lib.hid (HB.out.trans (hbz.mono HB.out.size));have kz := Lib.hid (Lok.new Vy 57 #[.int .i64 0, .int .i64 0, .int .i64 0]);clear hbz;generalize Vy.alloc (.cells #[.int .i64 0, .int .i64 0, .int .i64 0] 57) = Vz at *;rw [zy] at kz;clear zx zy zz;have x0 := kx.out.cell (i := 0) rfl;have x1 := kx.out.cell (i := 1) rfl;have x2 := kx.out.cell (i := 2) rfl;have y0 := ky.out.cell (i := 0) rfl;have y1 := ky.out.cell (i := 1) rfl;have y2 := ky.out.cell (i := 2) rfl
  go_wp2_with fail
  clear x0 x1 x2 y0 y1 y2;have hbr := below_new1 Vz (.cells #[.int .i64 a, .int .i64 b, .int .i64 c, .int .i64 d, .int .i64 e, .int .i64 f] 57);replace kz := Lib.hid (kz.out.keep hbr)
  have zr : (Vz.alloc (.cells #[.int .i64 a, .int .i64 b, .int .i64 c, .int .i64 d, .int .i64 e, .int .i64 f] 57)).heap.size = Vz.heap.size + 1 := by simp
  replace HB := Lib.hid (HB.out.trans (hbr.mono HB.out.size));have kr := Lib.hid (Lok.new Vz 57 #[.int .i64 a, .int .i64 b, .int .i64 c, .int .i64 d, .int .i64 e, .int .i64 f]);clear hbr;generalize Vz.alloc (.cells #[.int .i64 a, .int .i64 b, .int .i64 c, .int .i64 d, .int .i64 e, .int .i64 f] 57) = Vr at *;clear zr;generalize Vz.heap.size = gr at *
  (((with_reducible refine (I.out _ _ _ kr.out).mono ?_); rintro e w1 ⟨rfl, hb1⟩); replace HB := Lib.hid (HB.out.trans (hb1.mono HB.out.size)); replace kz := Lib.hid (kz.out.keep hb1); clear hb1)
  have z0 := kz.out.cell (i := 0) rfl;have z1 := kz.out.cell (i := 1) rfl;have z2 := kz.out.cell (i := 2) rfl;have f0 := kz.out.frozen 0;have f1 := kz.out.frozen 1;have f2 := kz.out.frozen 2
  go_wp2_with fail
  exact bodyPost_ret (v := .tuple #[.agg #[.int .i64 0, .int .i64 0, .int .i64 0], .int .i64 5]) (by simp [results, Tryz.results93, go_sem, z0, z1, z2]) rfl ⟨rfl, ((HB.out.setCell (by simp <;> omega) _).setCell (by simp <;> omega) _).setCell (by simp <;> omega) _⟩
 | true =>
  have I := Lib.hid (fun g T W h => is3_b a b c d e f true ht g T W h);rw [show xF true b c e f = b * f - c * e from rfl, show xF true c a f d = c * d - a * f from rfl, show xF true a b d e = a * e - b * d from rfl, show rE true = 0 from rfl];rw [Bool.and_eq_true, n3_iff, n3_iff] at ht;have C3 := Lib.hid (cC_3 a b c d e f);have C := Lib.hid (fun k W => cross_any (dX a b c k) (dY a b c k) (dX d e f k) (dY d e f k) W (drop_near ht.1.1 ht.1.2.1 ht.1.2.2 k) (drop_near ht.2.1 ht.2.2.1 ht.2.2.2 k));have D1 := Lib.hid (fun k W h => drop_any a b c k W h);have D2 := Lib.hid (fun k W h => drop_any d e f k W h);clear ht
  go_enter Tryz.func93, Tryz.ntmps93
  go_upto_region 1 with fail
  have hbx := below_new1 w (.cells #[.int .i64 a, .int .i64 b, .int .i64 c] 57)
  have zx : (w.alloc (.cells #[.int .i64 a, .int .i64 b, .int .i64 c] 57)).heap.size = w.heap.size + 1 := by simp
  have HB := Lib.hid hbx;have kx := Lib.hid (Lok.new w 57 #[.int .i64 a, .int .i64 b, .int .i64 c]);clear hbx;generalize w.alloc (.cells #[.int .i64 a, .int .i64 b, .int .i64 c] 57) = Vx at *;have hby := below_new1 Vx (.cells #[.int .i64 d, .int .i64 e, .int .i64 f] 57);replace kx := Lib.hid (kx.out.keep hby)
  have zy : (Vx.alloc (.cells #[.int .i64 d, .int .i64 e, .int .i64 f] 57)).heap.size = Vx.heap.size + 1 := by simp
  replace HB := Lib.hid (HB.out.trans (hby.mono HB.out.size));have ky := Lib.hid (Lok.new Vx 57 #[.int .i64 d, .int .i64 e, .int .i64 f]);clear hby;generalize Vx.alloc (.cells #[.int .i64 d, .int .i64 e, .int .i64 f] 57) = Vy at *;rw [zx] at ky zy;have hbz := below_new1 Vy (.cells #[.int .i64 0, .int .i64 0, .int .i64 0] 57);replace kx := Lib.hid (kx.out.keep hbz);replace ky := Lib.hid (ky.out.keep hbz)
  have zz : (Vy.alloc (.cells #[.int .i64 0, .int .i64 0, .int .i64 0] 57)).heap.size = Vy.heap.size + 1 := by simp
  replace HB := Lib.hid (HB.out.trans (hbz.mono HB.out.size));have kz := Lib.hid (Lok.new Vy 57 #[.int .i64 0, .int .i64 0, .int .i64 0]);clear hbz;generalize Vy.alloc (.cells #[.int .i64 0, .int .i64 0, .int .i64 0] 57) = Vz at *;rw [zy] at kz;clear zx zy zz;have x0 := kx.out.cell (i := 0) rfl;have x1 := kx.out.cell (i := 1) rfl;have x2 := kx.out.cell (i := 2) rfl;have y0 := ky.out.cell (i := 0) rfl;have y1 := ky.out.cell (i := 1) rfl;have y2 := ky.out.cell (i := 2) rfl
  go_wp2_with fail
  clear x0 x1 x2 y0 y1 y2;have hbr := below_new1 Vz (.cells #[.int .i64 a, .int .i64 b, .int .i64 c, .int .i64 d, .int .i64 e, .int .i64 f] 57);replace kx := Lib.hid (kx.out.keep hbr);replace ky := Lib.hid (ky.out.keep hbr);replace kz := Lib.hid (kz.out.keep hbr)
  have zr : (Vz.alloc (.cells #[.int .i64 a, .int .i64 b, .int .i64 c, .int .i64 d, .int .i64 e, .int .i64 f] 57)).heap.size = Vz.heap.size + 1 := by simp
  replace HB := Lib.hid (HB.out.trans (hbr.mono HB.out.size));have kr := Lib.hid (Lok.new Vz 57 #[.int .i64 a, .int .i64 b, .int .i64 c, .int .i64 d, .int .i64 e, .int .i64 f]);clear hbr;generalize Vz.alloc (.cells #[.int .i64 a, .int .i64 b, .int .i64 c, .int .i64 d, .int .i64 e, .int .i64 f] 57) = Vr at *;clear zr;generalize Vz.heap.size = gr at *
  (((with_reducible refine (I.out _ _ _ kr.out).mono ?_); rintro e w1 ⟨rfl, hb1⟩); replace HB := Lib.hid (HB.out.trans (hb1.mono HB.out.size)); replace kx := Lib.hid (kx.out.keep hb1); replace ky := Lib.hid (ky.out.keep hb1); replace kz := Lib.hid (kz.out.keep hb1); clear hb1)
  clear kr
  go_upto_region 4 with fail
  have gz := kz.out.lt;have hbp := below_new1 w1 (.cells #[.int .i64 0, .int .i64 0, .int .i64 0] 112);replace kx := Lib.hid (kx.out.keep hbp);replace ky := Lib.hid (ky.out.keep hbp);replace kz := Lib.hid (kz.out.keep hbp)
  have zp : (w1.alloc (.cells #[.int .i64 0, .int .i64 0, .int .i64 0] 112)).heap.size = w1.heap.size + 1 := by simp
  replace HB := Lib.hid (HB.out.trans (hbp.mono HB.out.size));have kp := Lib.hid (Lok.new w1 112 #[.int .i64 0, .int .i64 0, .int .i64 0]);clear hbp;generalize w1.alloc (.cells #[.int .i64 0, .int .i64 0, .int .i64 0] 112) = Vp at *;generalize w1.heap.size = gc at *
  go_wp2_with fail
  go_loopw [14] (fun x wr => ∃ k : Nat, x = .int .i64 k ∧ k ≤ 3 ∧ Below gc Vp wr ∧ Lok wr gc 112 (cC a b c d e f k)) (fun x _ => 3 - (intOf x).toNat)
  case atStart => exact ⟨0, rfl, Nat.zero_le _, Below.refl _ _, by rw [cC_0]; exact kp.out⟩
  case round =>
   obtain ⟨k, rfl, hk, hB, hK⟩ := hrel;have B := Lib.hid hB;have KC := Lib.hid hK;have KX := Lib.hid (kx.out.keepB hB (by omega));have KY := Lib.hid (ky.out.keepB hB (by omega));have KZ := Lib.hid (kz.out.keepB hB (by omega));have hbound := hK.lt;replace hbound := Nat.le_of_lt hbound
   have gx : w.heap.size < gc := by omega
   have gy : w.heap.size + 1 < gc := by omega
   clear hB hK kx ky kz kp zp
   by_cases hlt : k < 3
   ·have CS := Lib.hid (cC_set a b c d e f hlt)
    have hc := cC_at a b c d e f hlt;have C1 := Lib.hid (C.out k);have E1 := Lib.hid (fun W => D1.out k W hlt);have E2 := Lib.hid (fun W => D2.out k W hlt);rw [show dX a b c k * dY d e f k - dY a b c k * dX d e f k = cX a b c d e f k from rfl] at C1;have o3 := KC.out;obtain ⟨CN, hCN⟩ : ∃ CN, CN = cC a b c d e f (k + 1) := ⟨_, rfl⟩;rw [← hCN] at CS;have HCN := Lib.hid hCN;clear hCN C D1 D2 KC;generalize cC a b c d e f k = CK at *;generalize cX a b c d e f k = X at *;generalize dX a b c k = p at *;generalize dY a b c k = q at *;generalize dX d e f k = s at *;generalize dY d e f k = t at *
    have i0 : (0 : Int) ≤ (k : Int) := by omega
    have i1 : (k : Int) < 3 := by omega
    have i2 : ((k : Int)).toNat = k := by omega
    go_wp2_with fail
    refine wp_region_rel (by kernel_rfl) [17, 18, 19, 20, 21, 22, 23, 24, 25] ?Fr1 ?hFr1
     (fun L u W => Below gc wr W ∧ (L 0 = true → u 17 = .int .i64 k) ∧ (L 1 = true → u 18 = .agg #[.int .i64 a, .int .i64 b, .int .i64 c]) ∧ (L 2 = true → u 19 = .int .i64 k) ∧ (L 3 = true → u 20 = .agg #[.int .i64 p, .int .i64 q]) ∧ (L 4 = true → u 21 = .agg #[.int .i64 d, .int .i64 e, .int .i64 f]) ∧ (L 5 = true → u 22 = .int .i64 k) ∧ (L 6 = true → u 23 = .agg #[.int .i64 s, .int .i64 t]) ∧ (L 7 = true → u 24 = .int .i64 X) ∧ (L 8 = true → u 25 = .pointer (some ⟨gc, k, none⟩)) ∧ (L 9 = false → Lok W (gc) 112 (CK)) ∧ (L 9 = true → Lok W (gc) 112 ((CK).setIfInBounds (k) (.int .i64 X)))) (by kernel_rfl) (by kernel_rfl) 10 rfl ?h0r1 ?stepr1 ?finr1
    case hFr1 => intro u; simp only [putAll, Act.put, List.setIfInBounds_toArray, List.set]; exact rfl
    case h0r1 => intro L u hL; exact ⟨(Below.refl _ _).drew, (fun h => by simp [hL] at h), (fun h => by simp [hL] at h), (fun h => by simp [hL] at h), (fun h => by simp [hL] at h), (fun h => by simp [hL] at h), (fun h => by simp [hL] at h), (fun h => by simp [hL] at h), (fun h => by simp [hL] at h), (fun h => by simp [hL] at h), (fun _ => by assumption), (fun h => by simp [hL] at h)⟩
    case stepr1 =>
     refine ops_all (ops_cons ?s0r1 (ops_cons ?s1r1 (ops_cons ?s2r1 (ops_cons ?s3r1 (ops_cons ?s4r1 (ops_cons ?s5r1 (ops_cons ?s6r1 (ops_cons ?s7r1 (ops_cons ?s8r1 (ops_cons ?s9r1 (ops_nil)))))))))))
     case s0r1 =>
      rintro L u W ⟨hB, c0, c1, c2, c3, c4, c5, c6, c7, c8, o9, wn9⟩ hf hd K hK
      dsimp only at hK
      clear hd
      go_simp
      refine hK _ _ ?_ (fun h => by cases h)
      intro s hs
      cases hs
      exact ⟨hB, (fun _ => rfl), c1, c2, c3, c4, c5, c6, c7, c8, o9, wn9⟩
     case s1r1 =>
      rintro L u W ⟨hB, c0, c1, c2, c3, c4, c5, c6, c7, c8, o9, wn9⟩ hf hd K hK
      dsimp only at hK
      have t0 := (KX.out.keepB hB gx).cell (i := 0) rfl;have t1 := (KX.out.keepB hB gx).cell (i := 1) rfl;have t2 := (KX.out.keepB hB gx).cell (i := 2) rfl;clear hd
      go_simp
      refine hK _ _ ?_ (fun h => by cases h)
      intro s hs
      cases hs
      exact ⟨hB, c0, (fun _ => rfl), c2, c3, c4, c5, c6, c7, c8, o9, wn9⟩
     case s2r1 =>
      rintro L u W ⟨hB, c0, c1, c2, c3, c4, c5, c6, c7, c8, o9, wn9⟩ hf hd K hK
      dsimp only at hK
      clear hd
      go_simp
      refine hK _ _ ?_ (fun h => by cases h)
      intro s hs
      cases hs
      exact ⟨hB, c0, c1, (fun _ => rfl), c3, c4, c5, c6, c7, c8, o9, wn9⟩
     case s3r1 =>
      rintro L u W ⟨hB, c0, c1, c2, c3, c4, c5, c6, c7, c8, o9, wn9⟩ hf hd K hK
      dsimp only at hK
      have hd1 : L 1 = true := (by first | exact hd ⟨1, .data⟩ (by simp) rfl | exact hd ⟨1, .guard⟩ (by simp) rfl | exact hd ⟨1, .phase⟩ (by simp) rfl | exact hd ⟨1, .chain⟩ (by simp) rfl);have hd2 : L 2 = true := (by first | exact hd ⟨2, .data⟩ (by simp) rfl | exact hd ⟨2, .guard⟩ (by simp) rfl | exact hd ⟨2, .phase⟩ (by simp) rfl | exact hd ⟨2, .chain⟩ (by simp) rfl);have e1 := c1 hd1;rw [e1] at hK;have e2 := c2 hd2;rw [e2] at hK;clear hd1;clear hd2;clear hd
      go_simp
      go_wp2_with (go_at_call 77; ((with_reducible refine (E1.out _).mono ?_); rintro e w5 ⟨rfl, hb⟩))
      refine hK _ _ ?_ (fun h => by cases h)
      intro s hs
      cases hs
      exact ⟨hB.trans (hb.mono (Nat.le_trans hbound hB.size)), c0, c1, c2, (fun _ => rfl), c4, c5, c6, c7, c8, (fun h => (o9 h).keep hb), (fun h => (wn9 h).keep hb)⟩
     case s4r1 =>
      rintro L u W ⟨hB, c0, c1, c2, c3, c4, c5, c6, c7, c8, o9, wn9⟩ hf hd K hK
      dsimp only at hK
      have t0 := (KY.out.keepB hB gy).cell (i := 0) rfl;have t1 := (KY.out.keepB hB gy).cell (i := 1) rfl;have t2 := (KY.out.keepB hB gy).cell (i := 2) rfl;clear hd
      go_simp
      refine hK _ _ ?_ (fun h => by cases h)
      intro s hs
      cases hs
      exact ⟨hB, c0, c1, c2, c3, (fun _ => rfl), c5, c6, c7, c8, o9, wn9⟩
     case s5r1 =>
      rintro L u W ⟨hB, c0, c1, c2, c3, c4, c5, c6, c7, c8, o9, wn9⟩ hf hd K hK
      dsimp only at hK
      clear hd
      go_simp
      refine hK _ _ ?_ (fun h => by cases h)
      intro s hs
      cases hs
      exact ⟨hB, c0, c1, c2, c3, c4, (fun _ => rfl), c6, c7, c8, o9, wn9⟩
     case s6r1 =>
      rintro L u W ⟨hB, c0, c1, c2, c3, c4, c5, c6, c7, c8, o9, wn9⟩ hf hd K hK
      dsimp only at hK
      have hd4 : L 4 = true := (by first | exact hd ⟨4, .data⟩ (by simp) rfl | exact hd ⟨4, .guard⟩ (by simp) rfl | exact hd ⟨4, .phase⟩ (by simp) rfl | exact hd ⟨4, .chain⟩ (by simp) rfl);have hd5 : L 5 = true := (by first | exact hd ⟨5, .data⟩ (by simp) rfl | exact hd ⟨5, .guard⟩ (by simp) rfl | exact hd ⟨5, .phase⟩ (by simp) rfl | exact hd ⟨5, .chain⟩ (by simp) rfl);have e4 := c4 hd4;rw [e4] at hK;have e5 := c5 hd5;rw [e5] at hK;clear hd4;clear hd5;clear hd
      go_simp
      go_wp2_with (go_at_call 77; ((with_reducible refine (E2.out _).mono ?_); rintro e w5 ⟨rfl, hb⟩))
      refine hK _ _ ?_ (fun h => by cases h)
      intro s hs
      cases hs
      exact ⟨hB.trans (hb.mono (Nat.le_trans hbound hB.size)), c0, c1, c2, c3, c4, c5, (fun _ => rfl), c7, c8, (fun h => (o9 h).keep hb), (fun h => (wn9 h).keep hb)⟩
     case s7r1 =>
      rintro L u W ⟨hB, c0, c1, c2, c3, c4, c5, c6, c7, c8, o9, wn9⟩ hf hd K hK
      dsimp only at hK
      have hd3 : L 3 = true := (by first | exact hd ⟨3, .data⟩ (by simp) rfl | exact hd ⟨3, .guard⟩ (by simp) rfl | exact hd ⟨3, .phase⟩ (by simp) rfl | exact hd ⟨3, .chain⟩ (by simp) rfl);have hd6 : L 6 = true := (by first | exact hd ⟨6, .data⟩ (by simp) rfl | exact hd ⟨6, .guard⟩ (by simp) rfl | exact hd ⟨6, .phase⟩ (by simp) rfl | exact hd ⟨6, .chain⟩ (by simp) rfl);have e3 := c3 hd3;rw [e3] at hK;have e6 := c6 hd6;rw [e6] at hK;clear hd3;clear hd6;clear hd
      go_simp
      go_wp2_with (go_at_call 108; ((with_reducible refine (C1.out _).mono ?_); rintro e w5 ⟨rfl, hb⟩))
      refine hK _ _ ?_ (fun h => by cases h)
      intro s hs
      cases hs
      exact ⟨hB.trans (hb.mono (Nat.le_trans hbound hB.size)), c0, c1, c2, c3, c4, c5, c6, (fun _ => rfl), c8, (fun h => (o9 h).keep hb), (fun h => (wn9 h).keep hb)⟩
     case s8r1 =>
      rintro L u W ⟨hB, c0, c1, c2, c3, c4, c5, c6, c7, c8, o9, wn9⟩ hf hd K hK
      dsimp only at hK
      have hd0 : L 0 = true := (by first | exact hd ⟨0, .data⟩ (by simp) rfl | exact hd ⟨0, .guard⟩ (by simp) rfl | exact hd ⟨0, .phase⟩ (by simp) rfl | exact hd ⟨0, .chain⟩ (by simp) rfl);have e0 := c0 hd0;rw [e0] at hK;clear hd0;clear hd
      go_simp
      refine hK _ _ ?_ (fun h => by cases h)
      intro s hs
      cases hs
      exact ⟨hB, c0, c1, c2, c3, c4, c5, c6, c7, (fun _ => rfl), o9, wn9⟩
     case s9r1 =>
      rintro L u W ⟨hB, c0, c1, c2, c3, c4, c5, c6, c7, c8, o9, wn9⟩ hf hd K hK
      dsimp only at hK
      have hd7 : L 7 = true := (by first | exact hd ⟨7, .data⟩ (by simp) rfl | exact hd ⟨7, .phase⟩ (by simp) rfl);have hd8 : L 8 = true := (by first | exact hd ⟨8, .data⟩ (by simp) rfl | exact hd ⟨8, .phase⟩ (by simp) rfl);have k3 := o9 hf;have e7 := c7 hd7;rw [e7] at hK;have e8 := c8 hd8;rw [e8] at hK;have t0 := k3.cell (i := k) (v := .int .i64 0) (by first | assumption | rfl);have f0 := k3.frozen (k);clear hd;have hd7' := Lib.hid hd7;clear hd7;have hd8' := Lib.hid hd8;clear hd8
      go_simp
      have hd7 := hd7'.out;have hd8 := hd8'.out;have hlok := k3.set (i := k) (v := .int .i64 X)
      refine hK undef _ (fun s h => by cases h) (fun _ => ?_)
      exact ⟨hB.setCell (by first | exact Nat.le_refl _ | assumption | (show _ ≤ _; omega) | (show (gc) ≤ (gc); omega)) _, c0, c1, c2, c3, c4, c5, c6, (fun _ => rfl), (fun _ => rfl), (fun h => by cases h), (fun _ => hlok)⟩
    case finr1 =>
     rintro L u W hL ⟨hB, c0, c1, c2, c3, c4, c5, c6, c7, c8, o9, wn9⟩
     have e0 := c0 (hL 0 (by decide));have e1 := c1 (hL 1 (by decide));have e2 := c2 (hL 2 (by decide));have e3 := c3 (hL 3 (by decide));have e4 := c4 (hL 4 (by decide));have e5 := c5 (hL 5 (by decide));have e6 := c6 (hL 6 (by decide));have e7 := c7 (hL 7 (by decide));have e8 := c8 (hL 8 (by decide));have hlok9 := wn9 (hL 9 (by decide));clear hL c0 c1 c2 c3 c4 c5 c6 c7 c8 o9 wn9
     try simp only [e0, e1, e2, e3, e4, e5, e6, e7, e8]
     clear e0 e1 e2 e3 e4 e5 e6 e7 e8
     go_wp2_with fail
     rw [CS.out] at hlok9
     exact ⟨⟨k + 1, by go_num, hlt, B.out.trans (hB.mono (Nat.le_refl _)), by rw [← HCN.out]; exact hlok9⟩, by simp [intOf]; omega⟩
   ·obtain rfl : k = 3 := by omega
    rw [C3.out] at KC;have c0 := KC.out.cell (i := 0) rfl;have c1 := KC.out.cell (i := 1) rfl;have c2 := KC.out.cell (i := 2) rfl;have z0 := KZ.out.cell (i := 0) rfl;have z1 := KZ.out.cell (i := 1) rfl;have z2 := KZ.out.cell (i := 2) rfl;have f0 := KZ.out.frozen 0;have f1 := KZ.out.frozen 1;have f2 := KZ.out.frozen 2
    go_wp2_with fail
    exact bodyPost_ret (v := .tuple #[.agg #[.int .i64 (b * f - c * e), .int .i64 (c * d - a * f), .int .i64 (a * e - b * d)], .int .i64 0]) (by simp [results, Tryz.results93, go_sem, z0, z1, z2]) rfl ⟨rfl, (((HB.out.trans (B.out.mono (Nat.le_of_lt gx))).setCell (by simp <;> omega) _).setCell (by simp <;> omega) _).setCell (by simp <;> omega) _⟩
end Go.Proofs.YtcnbbanpnoigdaaGreat
namespace Go.Proofs.YtcnbbanpnoigdaaGreat
open Go.RowKit

theorem sub3_sm {a b c d e f : Int} (h : s3 a b c = true) (k : s3 d e f = true) (w : World) :
  Calls Tryz.prog 94 #[.agg #[.int .i64 d, .int .i64 e, .int .i64 f], .agg #[.int .i64 a, .int .i64 b, .int .i64 c]] w fun e' w' => e' = .returned (.agg #[.int .i64 (d - a), .int .i64 (e - b), .int .i64 (f - c)]) ∧ Below w.heap.size w w' := by
 have q := sub3_any d e f a b c w;rw [n3_of h, n3_of k] at q
 exact q
theorem cross3_sm {a1 a2 a3 b1 b2 b3 c1 c2 c3 : Int} (ha : s3 a1 a2 a3 = true) (hb : s3 b1 b2 b3 = true) (hc : s3 c1 c2 c3 = true) (w : World) :
  Calls Tryz.prog 93 #[.agg #[.int .i64 (b1 - a1), .int .i64 (b2 - a2), .int .i64 (b3 - a3)], .agg #[.int .i64 (c1 - a1), .int .i64 (c2 - a2), .int .i64 (c3 - a3)]] w fun e w' => e = .returned (.tuple #[.agg #[.int .i64 (ar a2 a3 b2 b3 c2 c3), .int .i64 (ar a3 a1 b3 b1 c3 c1), .int .i64 (ar a1 a2 b1 b2 c1 c2)], .int .i64 0]) ∧ Below w.heap.size w w' := by
 have q := cross3_any (b1 - a1) (b2 - a2) (b3 - a3) (c1 - a1) (c2 - a2) (c3 - a3) w;rw [n3_d ha hb, n3_d ha hc] at q
 exact q
theorem rsub3_sm {a b c d e f : Int} (h : s3 a b c = true) (k : s3 d e f = true) (w : World) :
  Calls Tryz.prog 75 #[.agg #[.int .i64 d, .int .i64 e, .int .i64 f], .agg #[.int .i64 a, .int .i64 b, .int .i64 c]] w fun e' w' => e' = .returned (.agg #[.int .i64 (d - a), .int .i64 (e - b), .int .i64 (f - c)]) ∧ Below w.heap.size w w' := by
 have q := rsub3_any d e f a b c w;rw [n3_of h, n3_of k] at q
 exact q
theorem rcross3_sm {a1 a2 a3 b1 b2 b3 c1 c2 c3 : Int} (ha : s3 a1 a2 a3 = true) (hb : s3 b1 b2 b3 = true) (hc : s3 c1 c2 c3 = true) (w : World) :
  Calls Tryz.prog 74 #[.agg #[.int .i64 (b1 - a1), .int .i64 (b2 - a2), .int .i64 (b3 - a3)], .agg #[.int .i64 (c1 - a1), .int .i64 (c2 - a2), .int .i64 (c3 - a3)]] w fun e w' => e = .returned (.tuple #[.agg #[.int .i64 (ar a2 a3 b2 b3 c2 c3), .int .i64 (ar a3 a1 b3 b1 c3 c1), .int .i64 (ar a1 a2 b1 b2 c1 c2)], .int .i64 0]) ∧ Below w.heap.size w w' := by
 have q := rcross3_any (b1 - a1) (b2 - a2) (b3 - a3) (c1 - a1) (c2 - a2) (c3 - a3) w;rw [n3_d ha hb, n3_d ha hc] at q
 exact q
set_option maxRecDepth 100000 in
set_option maxHeartbeats 4000000 in
theorem space_any (a1 a2 a3 b1 b2 b3 c1 c2 c3 : Int) (t : Bool) (ht : (s3 a1 a2 a3 && s3 b1 b2 b3 && s3 c1 c2 c3) = t) (w : World) :
  Calls Tryz.prog 69 #[.agg #[.int .i64 a1, .int .i64 a2, .int .i64 a3, .int .i64 b1, .int .i64 b2, .int .i64 b3, .int .i64 c1, .int .i64 c2, .int .i64 c3]] w fun e' w' => e' = .returned (.tuple #[.agg #[.int .i64 (vF t (ar a2 a3 b2 b3 c2 c3)), .int .i64 (vF t (ar a3 a1 b3 b1 c3 c1)), .int .i64 (vF t (ar a1 a2 b1 b2 c1 c2))], .int .i64 (rE t)]) ∧ Below w.heap.size w w' := by
 have HB := Lib.hid (Below.refl w.heap.size w);have S := Lib.hid (fun g T W h => small3_3 a1 a2 a3 b1 b2 b3 c1 c2 c3 t ht g T W h)
 cases t with
 | false =>
  rw [vF_no, vF_no, vF_no, show rE false = 5 from rfl];clear ht
  go_enter Tryz.func69, Tryz.ntmps69
  go_upto_region 1 with fail
  have hbx := below_new1 w (.cells #[.int .i64 a1, .int .i64 a2, .int .i64 a3, .int .i64 b1, .int .i64 b2, .int .i64 b3, .int .i64 c1, .int .i64 c2, .int .i64 c3] 110)
  have zx : (w.alloc (.cells #[.int .i64 a1, .int .i64 a2, .int .i64 a3, .int .i64 b1, .int .i64 b2, .int .i64 b3, .int .i64 c1, .int .i64 c2, .int .i64 c3] 110)).heap.size = w.heap.size + 1 := by simp
  have HB := Lib.hid hbx;have kx := Lib.hid (Lok.new w 110 #[.int .i64 a1, .int .i64 a2, .int .i64 a3, .int .i64 b1, .int .i64 b2, .int .i64 b3, .int .i64 c1, .int .i64 c2, .int .i64 c3]);clear hbx;generalize w.alloc (.cells #[.int .i64 a1, .int .i64 a2, .int .i64 a3, .int .i64 b1, .int .i64 b2, .int .i64 b3, .int .i64 c1, .int .i64 c2, .int .i64 c3] 110) = Vx at *;have hby := below_new1 Vx (.cells #[.int .i64 0, .int .i64 0, .int .i64 0] 57);replace kx := Lib.hid (kx.out.keep hby)
  have zy : (Vx.alloc (.cells #[.int .i64 0, .int .i64 0, .int .i64 0] 57)).heap.size = Vx.heap.size + 1 := by simp
  replace HB := Lib.hid (HB.out.trans (hby.mono HB.out.size));have ky := Lib.hid (Lok.new Vx 57 #[.int .i64 0, .int .i64 0, .int .i64 0]);clear hby;generalize Vx.alloc (.cells #[.int .i64 0, .int .i64 0, .int .i64 0] 57) = Vy at *;rw [zx] at ky;clear zx zy
  go_wp2_with fail
  (((with_reducible refine (S.out _ _ _ kx.out).mono ?_); rintro e w1 ⟨rfl, hb1⟩); replace HB := Lib.hid (HB.out.trans (hb1.mono HB.out.size)); replace kx := Lib.hid (kx.out.keep hb1); replace ky := Lib.hid (ky.out.keep hb1); clear hb1)
  have y0 := ky.out.cell (i := 0) rfl;have y1 := ky.out.cell (i := 1) rfl;have y2 := ky.out.cell (i := 2) rfl;have fy0 := ky.out.frozen 0;have fy1 := ky.out.frozen 1;have fy2 := ky.out.frozen 2
  go_wp2_with fail
  exact bodyPost_ret (v := .tuple #[.agg #[.int .i64 0, .int .i64 0, .int .i64 0], .int .i64 5]) (by simp [results, Tryz.results69, go_sem, y0, y1, y2]) rfl ⟨rfl, ((HB.out.setCell (by simp <;> omega) _).setCell (by simp <;> omega) _).setCell (by simp <;> omega) _⟩
 | true =>
  rw [vF_yes, vF_yes, vF_yes, show rE true = 0 from rfl];rw [Bool.and_eq_true, Bool.and_eq_true] at ht;obtain ⟨⟨ha, hb⟩, hc⟩ := ht;have U1 := Lib.hid (fun W => sub3_sm ha hb W);have U2 := Lib.hid (fun W => sub3_sm ha hc W);have X := Lib.hid (fun W => cross3_sm ha hb hc W);generalize ar a2 a3 b2 b3 c2 c3 = n1 at *;generalize ar a3 a1 b3 b1 c3 c1 = n2 at *;generalize ar a1 a2 b1 b2 c1 c2 = n3 at *;clear ha hb hc
  go_enter Tryz.func69, Tryz.ntmps69
  go_upto_region 1 with fail
  have hbx := below_new1 w (.cells #[.int .i64 a1, .int .i64 a2, .int .i64 a3, .int .i64 b1, .int .i64 b2, .int .i64 b3, .int .i64 c1, .int .i64 c2, .int .i64 c3] 110)
  have zx : (w.alloc (.cells #[.int .i64 a1, .int .i64 a2, .int .i64 a3, .int .i64 b1, .int .i64 b2, .int .i64 b3, .int .i64 c1, .int .i64 c2, .int .i64 c3] 110)).heap.size = w.heap.size + 1 := by simp
  have HB := Lib.hid hbx;have kx := Lib.hid (Lok.new w 110 #[.int .i64 a1, .int .i64 a2, .int .i64 a3, .int .i64 b1, .int .i64 b2, .int .i64 b3, .int .i64 c1, .int .i64 c2, .int .i64 c3]);clear hbx;generalize w.alloc (.cells #[.int .i64 a1, .int .i64 a2, .int .i64 a3, .int .i64 b1, .int .i64 b2, .int .i64 b3, .int .i64 c1, .int .i64 c2, .int .i64 c3] 110) = Vx at *;have hby := below_new1 Vx (.cells #[.int .i64 0, .int .i64 0, .int .i64 0] 57);replace kx := Lib.hid (kx.out.keep hby)
  have zy : (Vx.alloc (.cells #[.int .i64 0, .int .i64 0, .int .i64 0] 57)).heap.size = Vx.heap.size + 1 := by simp
  replace HB := Lib.hid (HB.out.trans (hby.mono HB.out.size));have ky := Lib.hid (Lok.new Vx 57 #[.int .i64 0, .int .i64 0, .int .i64 0]);clear hby;generalize Vx.alloc (.cells #[.int .i64 0, .int .i64 0, .int .i64 0] 57) = Vy at *;rw [zx] at ky;clear zx zy
  go_wp2_with fail
  (((with_reducible refine (S.out _ _ _ kx.out).mono ?_); rintro e w1 ⟨rfl, hb1⟩); replace HB := Lib.hid (HB.out.trans (hb1.mono HB.out.size)); replace kx := Lib.hid (kx.out.keep hb1); replace ky := Lib.hid (ky.out.keep hb1); clear hb1)
  clear S;have hxy : w.heap.size < w.heap.size + 1 := Nat.lt_succ_self _;have o13 := ky.out;have hbound := Nat.le_of_lt ky.out.lt;generalize w.heap.size + 1 = gy at *
  go_upto_region 3 with fail
  refine wp_region_rel (by kernel_rfl) [8, 9, 10, 11, 12, 13, 14, 15, 16, 17, 18, 19, 20, 3] ?Fr1 ?hFr1
   (fun L u W => Below gy w1 W ∧ (L 0 = true → u 8 = .pointer (some ⟨w.heap.size, 3, none⟩)) ∧ (L 1 = true → u 9 = .agg #[.int .i64 b1, .int .i64 b2, .int .i64 b3]) ∧ (L 2 = true → u 10 = .pointer (some ⟨w.heap.size, 0, none⟩)) ∧ (L 3 = true → u 11 = .agg #[.int .i64 a1, .int .i64 a2, .int .i64 a3]) ∧ (L 4 = true → u 12 = .agg #[.int .i64 (b1 - a1), .int .i64 (b2 - a2), .int .i64 (b3 - a3)]) ∧ (L 5 = true → u 13 = .pointer (some ⟨w.heap.size, 6, none⟩)) ∧ (L 6 = true → u 14 = .agg #[.int .i64 c1, .int .i64 c2, .int .i64 c3]) ∧ (L 7 = true → u 15 = .pointer (some ⟨w.heap.size, 0, none⟩)) ∧ (L 8 = true → u 16 = .agg #[.int .i64 a1, .int .i64 a2, .int .i64 a3]) ∧ (L 9 = true → u 17 = .agg #[.int .i64 (c1 - a1), .int .i64 (c2 - a2), .int .i64 (c3 - a3)]) ∧ (L 10 = true → u 18 = .tuple #[.agg #[.int .i64 n1, .int .i64 n2, .int .i64 n3], .int .i64 0]) ∧ (L 11 = true → u 19 = .agg #[.int .i64 n1, .int .i64 n2, .int .i64 n3]) ∧ (L 12 = true → u 20 = .int .i64 0) ∧ (L 14 = true → u 3 = .int .i64 0) ∧ (L 13 = false → Lok W (gy) 57 #[.int .i64 0, .int .i64 0, .int .i64 0]) ∧ (L 13 = true → Lok W (gy) 57 #[.int .i64 n1, .int .i64 n2, .int .i64 n3])) (by kernel_rfl) (by kernel_rfl) 15 rfl ?h0r1 ?stepr1 ?finr1
  case hFr1 => intro u; simp only [putAll, Act.put, List.setIfInBounds_toArray, List.set]; exact rfl
  case h0r1 => intro L u hL; exact ⟨(Below.refl _ _).drew, (fun h => by simp [hL] at h), (fun h => by simp [hL] at h), (fun h => by simp [hL] at h), (fun h => by simp [hL] at h), (fun h => by simp [hL] at h), (fun h => by simp [hL] at h), (fun h => by simp [hL] at h), (fun h => by simp [hL] at h), (fun h => by simp [hL] at h), (fun h => by simp [hL] at h), (fun h => by simp [hL] at h), (fun h => by simp [hL] at h), (fun h => by simp [hL] at h), (fun h => by simp [hL] at h), (fun _ => by assumption), (fun h => by simp [hL] at h)⟩
  case stepr1 =>
   refine ops_all (ops_cons ?s0r1 (ops_cons ?s1r1 (ops_cons ?s2r1 (ops_cons ?s3r1 (ops_cons ?s4r1 (ops_cons ?s5r1 (ops_cons ?s6r1 (ops_cons ?s7r1 (ops_cons ?s8r1 (ops_cons ?s9r1 (ops_cons ?s10r1 (ops_cons ?s11r1 (ops_cons ?s12r1 (ops_cons ?s13r1 (ops_cons ?s14r1 (ops_nil))))))))))))))))
   case s0r1 =>
    rintro L u W ⟨hB, c0, c1, c2, c3, c4, c5, c6, c7, c8, c9, c10, c11, c12, c14, o13, wn13⟩ hf hd K hK
    dsimp only at hK
    clear hd
    go_simp
    refine hK _ _ ?_ (fun h => by cases h)
    intro s hs
    cases hs
    exact ⟨hB, (fun _ => rfl), c1, c2, c3, c4, c5, c6, c7, c8, c9, c10, c11, c12, c14, o13, wn13⟩
   case s1r1 =>
    rintro L u W ⟨hB, c0, c1, c2, c3, c4, c5, c6, c7, c8, c9, c10, c11, c12, c14, o13, wn13⟩ hf hd K hK
    dsimp only at hK
    have hd0 : L 0 = true := (by first | exact hd ⟨0, .data⟩ (by simp) rfl | exact hd ⟨0, .guard⟩ (by simp) rfl | exact hd ⟨0, .phase⟩ (by simp) rfl | exact hd ⟨0, .chain⟩ (by simp) rfl);have e0 := c0 hd0;rw [e0] at hK;have t0 := (kx.out.keepB hB hxy).cell (i := 3) rfl;have t1 := (kx.out.keepB hB hxy).cell (i := 4) rfl;have t2 := (kx.out.keepB hB hxy).cell (i := 5) rfl;clear hd0;clear hd
    go_simp
    refine hK _ _ ?_ (fun h => by cases h)
    intro s hs
    cases hs
    exact ⟨hB, c0, (fun _ => rfl), c2, c3, c4, c5, c6, c7, c8, c9, c10, c11, c12, c14, o13, wn13⟩
   case s2r1 =>
    rintro L u W ⟨hB, c0, c1, c2, c3, c4, c5, c6, c7, c8, c9, c10, c11, c12, c14, o13, wn13⟩ hf hd K hK
    dsimp only at hK
    clear hd
    go_simp
    refine hK _ _ ?_ (fun h => by cases h)
    intro s hs
    cases hs
    exact ⟨hB, c0, c1, (fun _ => rfl), c3, c4, c5, c6, c7, c8, c9, c10, c11, c12, c14, o13, wn13⟩
   case s3r1 =>
    rintro L u W ⟨hB, c0, c1, c2, c3, c4, c5, c6, c7, c8, c9, c10, c11, c12, c14, o13, wn13⟩ hf hd K hK
    dsimp only at hK
    have hd2 : L 2 = true := (by first | exact hd ⟨2, .data⟩ (by simp) rfl | exact hd ⟨2, .guard⟩ (by simp) rfl | exact hd ⟨2, .phase⟩ (by simp) rfl | exact hd ⟨2, .chain⟩ (by simp) rfl);have e2 := c2 hd2;rw [e2] at hK;have t0 := (kx.out.keepB hB hxy).cell (i := 0) rfl;have t1 := (kx.out.keepB hB hxy).cell (i := 1) rfl;have t2 := (kx.out.keepB hB hxy).cell (i := 2) rfl;clear hd2;clear hd
    go_simp
    refine hK _ _ ?_ (fun h => by cases h)
    intro s hs
    cases hs
    exact ⟨hB, c0, c1, c2, (fun _ => rfl), c4, c5, c6, c7, c8, c9, c10, c11, c12, c14, o13, wn13⟩
   case s4r1 =>
    rintro L u W ⟨hB, c0, c1, c2, c3, c4, c5, c6, c7, c8, c9, c10, c11, c12, c14, o13, wn13⟩ hf hd K hK
    dsimp only at hK
    have hd1 : L 1 = true := (by first | exact hd ⟨1, .data⟩ (by simp) rfl | exact hd ⟨1, .guard⟩ (by simp) rfl | exact hd ⟨1, .phase⟩ (by simp) rfl | exact hd ⟨1, .chain⟩ (by simp) rfl);have hd3 : L 3 = true := (by first | exact hd ⟨3, .data⟩ (by simp) rfl | exact hd ⟨3, .guard⟩ (by simp) rfl | exact hd ⟨3, .phase⟩ (by simp) rfl | exact hd ⟨3, .chain⟩ (by simp) rfl);have e1 := c1 hd1;rw [e1] at hK;have e3 := c3 hd3;rw [e3] at hK;clear hd1;clear hd3;clear hd
    go_simp
    go_wp2_with (go_at_call 94; ((with_reducible refine (U1.out _).mono ?_); rintro e w5 ⟨rfl, hb⟩))
    refine hK _ _ ?_ (fun h => by cases h)
    intro s hs
    cases hs
    exact ⟨hB.trans (hb.mono (Nat.le_trans hbound hB.size)), c0, c1, c2, c3, (fun _ => rfl), c5, c6, c7, c8, c9, c10, c11, c12, c14, (fun h => (o13 h).keep hb), (fun h => (wn13 h).keep hb)⟩
   case s5r1 =>
    rintro L u W ⟨hB, c0, c1, c2, c3, c4, c5, c6, c7, c8, c9, c10, c11, c12, c14, o13, wn13⟩ hf hd K hK
    dsimp only at hK
    clear hd
    go_simp
    refine hK _ _ ?_ (fun h => by cases h)
    intro s hs
    cases hs
    exact ⟨hB, c0, c1, c2, c3, c4, (fun _ => rfl), c6, c7, c8, c9, c10, c11, c12, c14, o13, wn13⟩
   case s6r1 =>
    rintro L u W ⟨hB, c0, c1, c2, c3, c4, c5, c6, c7, c8, c9, c10, c11, c12, c14, o13, wn13⟩ hf hd K hK
    dsimp only at hK
    have hd5 : L 5 = true := (by first | exact hd ⟨5, .data⟩ (by simp) rfl | exact hd ⟨5, .guard⟩ (by simp) rfl | exact hd ⟨5, .phase⟩ (by simp) rfl | exact hd ⟨5, .chain⟩ (by simp) rfl);have e5 := c5 hd5;rw [e5] at hK;have t0 := (kx.out.keepB hB hxy).cell (i := 6) rfl;have t1 := (kx.out.keepB hB hxy).cell (i := 7) rfl;have t2 := (kx.out.keepB hB hxy).cell (i := 8) rfl;clear hd5;clear hd
    go_simp
    refine hK _ _ ?_ (fun h => by cases h)
    intro s hs
    cases hs
    exact ⟨hB, c0, c1, c2, c3, c4, c5, (fun _ => rfl), c7, c8, c9, c10, c11, c12, c14, o13, wn13⟩
   case s7r1 =>
    rintro L u W ⟨hB, c0, c1, c2, c3, c4, c5, c6, c7, c8, c9, c10, c11, c12, c14, o13, wn13⟩ hf hd K hK
    dsimp only at hK
    clear hd
    go_simp
    refine hK _ _ ?_ (fun h => by cases h)
    intro s hs
    cases hs
    exact ⟨hB, c0, c1, c2, c3, c4, c5, c6, (fun _ => rfl), c8, c9, c10, c11, c12, c14, o13, wn13⟩
   case s8r1 =>
    rintro L u W ⟨hB, c0, c1, c2, c3, c4, c5, c6, c7, c8, c9, c10, c11, c12, c14, o13, wn13⟩ hf hd K hK
    dsimp only at hK
    have hd7 : L 7 = true := (by first | exact hd ⟨7, .data⟩ (by simp) rfl | exact hd ⟨7, .guard⟩ (by simp) rfl | exact hd ⟨7, .phase⟩ (by simp) rfl | exact hd ⟨7, .chain⟩ (by simp) rfl);have e7 := c7 hd7;rw [e7] at hK;have t0 := (kx.out.keepB hB hxy).cell (i := 0) rfl;have t1 := (kx.out.keepB hB hxy).cell (i := 1) rfl;have t2 := (kx.out.keepB hB hxy).cell (i := 2) rfl;clear hd7;clear hd
    go_simp
    refine hK _ _ ?_ (fun h => by cases h)
    intro s hs
    cases hs
    exact ⟨hB, c0, c1, c2, c3, c4, c5, c6, c7, (fun _ => rfl), c9, c10, c11, c12, c14, o13, wn13⟩
   case s9r1 =>
    rintro L u W ⟨hB, c0, c1, c2, c3, c4, c5, c6, c7, c8, c9, c10, c11, c12, c14, o13, wn13⟩ hf hd K hK
    dsimp only at hK
    have hd6 : L 6 = true := (by first | exact hd ⟨6, .data⟩ (by simp) rfl | exact hd ⟨6, .guard⟩ (by simp) rfl | exact hd ⟨6, .phase⟩ (by simp) rfl | exact hd ⟨6, .chain⟩ (by simp) rfl);have hd8 : L 8 = true := (by first | exact hd ⟨8, .data⟩ (by simp) rfl | exact hd ⟨8, .guard⟩ (by simp) rfl | exact hd ⟨8, .phase⟩ (by simp) rfl | exact hd ⟨8, .chain⟩ (by simp) rfl);have e6 := c6 hd6;rw [e6] at hK;have e8 := c8 hd8;rw [e8] at hK;clear hd6;clear hd8;clear hd
    go_simp
    go_wp2_with (go_at_call 94; ((with_reducible refine (U2.out _).mono ?_); rintro e w5 ⟨rfl, hb⟩))
    refine hK _ _ ?_ (fun h => by cases h)
    intro s hs
    cases hs
    exact ⟨hB.trans (hb.mono (Nat.le_trans hbound hB.size)), c0, c1, c2, c3, c4, c5, c6, c7, c8, (fun _ => rfl), c10, c11, c12, c14, (fun h => (o13 h).keep hb), (fun h => (wn13 h).keep hb)⟩
   case s10r1 =>
    rintro L u W ⟨hB, c0, c1, c2, c3, c4, c5, c6, c7, c8, c9, c10, c11, c12, c14, o13, wn13⟩ hf hd K hK
    dsimp only at hK
    have hd4 : L 4 = true := (by first | exact hd ⟨4, .data⟩ (by simp) rfl | exact hd ⟨4, .guard⟩ (by simp) rfl | exact hd ⟨4, .phase⟩ (by simp) rfl | exact hd ⟨4, .chain⟩ (by simp) rfl);have hd9 : L 9 = true := (by first | exact hd ⟨9, .data⟩ (by simp) rfl | exact hd ⟨9, .guard⟩ (by simp) rfl | exact hd ⟨9, .phase⟩ (by simp) rfl | exact hd ⟨9, .chain⟩ (by simp) rfl);have e4 := c4 hd4;rw [e4] at hK;have e9 := c9 hd9;rw [e9] at hK;clear hd4;clear hd9;clear hd
    go_simp
    go_wp2_with (go_at_call 93; ((with_reducible refine (X.out _).mono ?_); rintro e w5 ⟨rfl, hb⟩))
    refine hK _ _ ?_ (fun h => by cases h)
    intro s hs
    cases hs
    exact ⟨hB.trans (hb.mono (Nat.le_trans hbound hB.size)), c0, c1, c2, c3, c4, c5, c6, c7, c8, c9, (fun _ => rfl), c11, c12, c14, (fun h => (o13 h).keep hb), (fun h => (wn13 h).keep hb)⟩
   case s11r1 =>
    rintro L u W ⟨hB, c0, c1, c2, c3, c4, c5, c6, c7, c8, c9, c10, c11, c12, c14, o13, wn13⟩ hf hd K hK
    dsimp only at hK
    have hd10 : L 10 = true := (by first | exact hd ⟨10, .data⟩ (by simp) rfl | exact hd ⟨10, .guard⟩ (by simp) rfl | exact hd ⟨10, .phase⟩ (by simp) rfl | exact hd ⟨10, .chain⟩ (by simp) rfl);have e10 := c10 hd10;rw [e10] at hK;clear hd10;clear hd
    go_simp
    refine hK _ _ ?_ (fun h => by cases h)
    intro s hs
    cases hs
    exact ⟨hB, c0, c1, c2, c3, c4, c5, c6, c7, c8, c9, c10, (fun _ => rfl), c12, c14, o13, wn13⟩
   case s12r1 =>
    rintro L u W ⟨hB, c0, c1, c2, c3, c4, c5, c6, c7, c8, c9, c10, c11, c12, c14, o13, wn13⟩ hf hd K hK
    dsimp only at hK
    have hd10 : L 10 = true := (by first | exact hd ⟨10, .data⟩ (by simp) rfl | exact hd ⟨10, .guard⟩ (by simp) rfl | exact hd ⟨10, .phase⟩ (by simp) rfl | exact hd ⟨10, .chain⟩ (by simp) rfl);have e10 := c10 hd10;rw [e10] at hK;clear hd10;clear hd
    go_simp
    refine hK _ _ ?_ (fun h => by cases h)
    intro s hs
    cases hs
    exact ⟨hB, c0, c1, c2, c3, c4, c5, c6, c7, c8, c9, c10, c11, (fun _ => rfl), c14, o13, wn13⟩
   case s13r1 =>
    rintro L u W ⟨hB, c0, c1, c2, c3, c4, c5, c6, c7, c8, c9, c10, c11, c12, c14, o13, wn13⟩ hf hd K hK
    dsimp only at hK
    have hd11 : L 11 = true := (by first | exact hd ⟨11, .data⟩ (by simp) rfl | exact hd ⟨11, .phase⟩ (by simp) rfl);have k3 := o13 hf;have e11 := c11 hd11;rw [e11] at hK;have t0 := k3.cell (i := 0) rfl;have f0 := k3.frozen 0;have t1 := k3.cell (i := 1) rfl;have f1 := k3.frozen 1;have t2 := k3.cell (i := 2) rfl;have f2 := k3.frozen 2;clear hd;have hd11' := Lib.hid hd11;clear hd11
    go_simp
    have hd11 := hd11'.out;have hlok := ((k3.set (i := 0) (v := .int .i64 n1)).set (i := 1) (v := .int .i64 n2)).set (i := 2) (v := .int .i64 n3)
    refine hK undef _ (fun s h => by cases h) (fun _ => ?_)
    exact ⟨((hB.setCell (by first | exact Nat.le_refl _ | assumption | (show _ ≤ _; omega) | (show (gy) ≤ (gy); omega)) _).setCell (by first | exact Nat.le_refl _ | assumption | (show _ ≤ _; omega) | (show (gy) ≤ (gy); omega)) _).setCell (by first | exact Nat.le_refl _ | assumption | (show _ ≤ _; omega) | (show (gy) ≤ (gy); omega)) _, c0, c1, c2, c3, c4, c5, c6, c7, c8, c9, c10, (fun _ => rfl), c12, c14, (fun h => by cases h), (fun _ => hlok)⟩
   case s14r1 =>
    rintro L u W ⟨hB, c0, c1, c2, c3, c4, c5, c6, c7, c8, c9, c10, c11, c12, c14, o13, wn13⟩ hf hd K hK
    dsimp only at hK
    have hd12 : L 12 = true := (by first | exact hd ⟨12, .data⟩ (by simp) rfl | exact hd ⟨12, .guard⟩ (by simp) rfl | exact hd ⟨12, .phase⟩ (by simp) rfl | exact hd ⟨12, .chain⟩ (by simp) rfl);have e12 := c12 hd12;rw [e12] at hK;clear hd12;clear hd
    go_simp
    refine hK _ _ ?_ (fun h => by cases h)
    intro s hs
    cases hs
    exact ⟨hB, c0, c1, c2, c3, c4, c5, c6, c7, c8, c9, c10, c11, c12, (fun _ => rfl), o13, wn13⟩
  case finr1 =>
   rintro L u W hL ⟨hB, c0, c1, c2, c3, c4, c5, c6, c7, c8, c9, c10, c11, c12, c14, o13, wn13⟩
   have e0 := c0 (hL 0 (by decide));have e1 := c1 (hL 1 (by decide));have e2 := c2 (hL 2 (by decide));have e3 := c3 (hL 3 (by decide));have e4 := c4 (hL 4 (by decide));have e5 := c5 (hL 5 (by decide));have e6 := c6 (hL 6 (by decide));have e7 := c7 (hL 7 (by decide));have e8 := c8 (hL 8 (by decide));have e9 := c9 (hL 9 (by decide));have e10 := c10 (hL 10 (by decide));have e11 := c11 (hL 11 (by decide));have e12 := c12 (hL 12 (by decide));have e14 := c14 (hL 14 (by decide));have hlok13 := wn13 (hL 13 (by decide));clear hL c0 c1 c2 c3 c4 c5 c6 c7 c8 c9 c10 c11 c12 c14 o13 wn13
   try simp only [e0, e1, e2, e3, e4, e5, e6, e7, e8, e9, e10, e11, e12, e14]
   clear e0 e1 e2 e3 e4 e5 e6 e7 e8 e9 e10 e11 e12 e14;have z0 := hlok13.cell (i := 0) rfl;have z1 := hlok13.cell (i := 1) rfl;have z2 := hlok13.cell (i := 2) rfl
   go_wp2_with fail
   exact bodyPost_ret (v := .tuple #[.agg #[.int .i64 n1, .int .i64 n2, .int .i64 n3], .int .i64 0]) (by simp [results, Tryz.results69, go_sem, z0, z1, z2]) rfl ⟨rfl, HB.out.trans (hB.mono (Nat.le_of_lt hxy))⟩
end Go.Proofs.YtcnbbanpnoigdaaGreat
namespace Go.Proofs.YtcnbbanpnoigdaaGreat
open Go.RowKit

def q3 (a b c d e f : Int) : Bool := a == d && (b == e && c == f)
def q2 (a b c d : Int) : Bool := a == c && b == d
theorem beq_no {a b : Int} (h : ¬ a = b) : (a == b) = false := by rw [beq_eq_false_iff_ne]; exact h
set_option maxRecDepth 100000 in
@[go_sem high] theorem eql_v3 (w : World) (a b c d e f : Int) : (binOp .eql 57 (.agg #[.int .i64 a, .int .i64 b, .int .i64 c]) (.agg #[.int .i64 d, .int .i64 e, .int .i64 f])).run Tryz.prog w = .ok (.bool (q3 a b c d e f)) w := by
 unfold q3
 by_cases h1 : a = d
 ·subst h1
  by_cases h2 : b = e
  ·subst h2
   by_cases h3 : c = f
   ·subst h3; simp [go_sem]
   ·have e3 := beq_no h3
    simp [go_sem, e3]
  ·have e2 := beq_no h2
   simp [go_sem, e2]
 ·have e1 := beq_no h1
  simp [go_sem, e1]
end Go.Proofs.YtcnbbanpnoigdaaGreat
namespace Go.Proofs.YtcnbbanpnoigdaaGreat
open Go.RowKit

set_option maxRecDepth 100000 in
set_option maxHeartbeats 1000000 in
theorem sparts_any (x y z : Int) (w : World) :
  Calls Tryz.prog 72 #[.agg #[.int .i64 x, .int .i64 y, .int .i64 z]] w fun e w' => e = .returned (.agg #[.int .i64 x, .int .i64 y, .int .i64 z]) ∧ Below w.heap.size w w' := by
 go_enter Tryz.func72, Tryz.ntmps72
 go_wp2
 exact bodyPost_ret (v := .agg #[.int .i64 x, .int .i64 y, .int .i64 z]) (by simp [results, Tryz.results72, go_sem, *]) rfl ⟨rfl, by (repeat (first | exact Below.refl _ _ | assumption | refine Below.drew ?_ | refine below_drewN ?_ _ | refine Below.setCell ?_ (by first | omega | (simp; done) | (simp; omega)) _ | refine Below.alloc ?_ (by first | omega | (simp; done) | (simp; omega)) _))⟩

def FarP (a b c d e f : Int) : Prop := ∀ k, -70368744177664 ≤ pt a b c k * pt d e f k ∧ pt a b c k * pt d e f k ≤ 70368744177664

def fcA (t : Bool) (a b c : Int) : Int := if t = true ∧ q3 a b c 0 0 0 = false then (axF a b c 3 : Int) else 0
def fcS (t : Bool) (a b c : Int) : Int := if t = true ∧ q3 a b c 0 0 0 = false then ordI (pt a b c (axF a b c 3)) 0 else 0
def fcE (t : Bool) (a b c : Int) : Int := if t = true then (if q3 a b c 0 0 0 = true then 3 else 0) else 5
theorem ar_i64 {a b c d e f : Int} (ha : SM 16384 a) (hb : SM 16384 b) (hc : SM 16384 c) (hd : SM 16384 d) (he : SM 16384 e) (hf : SM 16384 f) : I64 (ar a b c d e f) := by
 have := ar_bd3 ha hb hc hd he hf
 unfold I64; omega
theorem normal_i64 {a1 a2 a3 b1 b2 b3 c1 c2 c3 : Int} (h : (s3 a1 a2 a3 && s3 b1 b2 b3 && s3 c1 c2 c3) = true) : I64 (ar a2 a3 b2 b3 c2 c3) ∧ I64 (ar a3 a1 b3 b1 c3 c1) ∧ I64 (ar a1 a2 b1 b2 c1 c2) := by
 rw [Bool.and_eq_true, Bool.and_eq_true, s3_iff, s3_iff, s3_iff] at h;obtain ⟨⟨⟨h1, h2, h3⟩, i1, i2, i3⟩, j1, j2, j3⟩ := h
 exact ⟨ar_i64 h2 h3 i2 i3 j2 j3, ar_i64 h3 h1 i3 i1 j3 j1, ar_i64 h1 h2 i1 i2 j1 j2⟩
set_option maxRecDepth 100000 in
set_option maxHeartbeats 8000000 in
theorem facing_any (a1 a2 a3 b1 b2 b3 c1 c2 c3 : Int) (t : Bool) (ht : (s3 a1 a2 a3 && s3 b1 b2 b3 && s3 c1 c2 c3) = t) (w : World) :
  Calls Tryz.prog 50 #[.agg #[.int .i64 a1, .int .i64 a2, .int .i64 a3], .agg #[.int .i64 b1, .int .i64 b2, .int .i64 b3], .agg #[.int .i64 c1, .int .i64 c2, .int .i64 c3]] w fun e' w' => e' = .returned (.tuple #[.int .i64 (fcA t (ar a2 a3 b2 b3 c2 c3) (ar a3 a1 b3 b1 c3 c1) (ar a1 a2 b1 b2 c1 c2)), .int .i64 (fcS t (ar a2 a3 b2 b3 c2 c3) (ar a3 a1 b3 b1 c3 c1) (ar a1 a2 b1 b2 c1 c2)), .int .i64 (fcE t (ar a2 a3 b2 b3 c2 c3) (ar a3 a1 b3 b1 c3 c1) (ar a1 a2 b1 b2 c1 c2))]) ∧ Below w.heap.size w w' := by
 have HB := Lib.hid (Below.refl w.heap.size w);have Q := Lib.hid (fun W => space_any a1 a2 a3 b1 b2 b3 c1 c2 c3 t ht W)
 cases t with
 | false =>
  rw [vF_no, vF_no, vF_no, show rE false = 5 from rfl] at Q;rw [show fcA false (ar a2 a3 b2 b3 c2 c3) (ar a3 a1 b3 b1 c3 c1) (ar a1 a2 b1 b2 c1 c2) = 0 from rfl, show fcS false (ar a2 a3 b2 b3 c2 c3) (ar a3 a1 b3 b1 c3 c1) (ar a1 a2 b1 b2 c1 c2) = 0 from rfl, show fcE false (ar a2 a3 b2 b3 c2 c3) (ar a3 a1 b3 b1 c3 c1) (ar a1 a2 b1 b2 c1 c2) = 5 from rfl];clear ht
  go_enter Tryz.func50, Tryz.ntmps50
  go_upto_region 1 with fail
  have hbx := below_new1 w (.cells #[.int .i64 a1, .int .i64 a2, .int .i64 a3] 57)
  have zx : (w.alloc (.cells #[.int .i64 a1, .int .i64 a2, .int .i64 a3] 57)).heap.size = w.heap.size + 1 := by simp
  have HB := Lib.hid hbx;have kx := Lib.hid (Lok.new w 57 #[.int .i64 a1, .int .i64 a2, .int .i64 a3]);clear hbx;generalize w.alloc (.cells #[.int .i64 a1, .int .i64 a2, .int .i64 a3] 57) = Vx at *;have hby := below_new1 Vx (.cells #[.int .i64 b1, .int .i64 b2, .int .i64 b3] 57);replace kx := Lib.hid (kx.out.keep hby)
  have zy : (Vx.alloc (.cells #[.int .i64 b1, .int .i64 b2, .int .i64 b3] 57)).heap.size = Vx.heap.size + 1 := by simp
  replace HB := Lib.hid (HB.out.trans (hby.mono HB.out.size));have ky := Lib.hid (Lok.new Vx 57 #[.int .i64 b1, .int .i64 b2, .int .i64 b3]);clear hby;generalize Vx.alloc (.cells #[.int .i64 b1, .int .i64 b2, .int .i64 b3] 57) = Vy at *;rw [zx] at ky zy;have hbz := below_new1 Vy (.cells #[.int .i64 c1, .int .i64 c2, .int .i64 c3] 57);replace kx := Lib.hid (kx.out.keep hbz);replace ky := Lib.hid (ky.out.keep hbz)
  have zz : (Vy.alloc (.cells #[.int .i64 c1, .int .i64 c2, .int .i64 c3] 57)).heap.size = Vy.heap.size + 1 := by simp
  replace HB := Lib.hid (HB.out.trans (hbz.mono HB.out.size));have kz := Lib.hid (Lok.new Vy 57 #[.int .i64 c1, .int .i64 c2, .int .i64 c3]);clear hbz;generalize Vy.alloc (.cells #[.int .i64 c1, .int .i64 c2, .int .i64 c3] 57) = Vz at *;rw [zy] at kz;clear zx zy zz;have x0 := kx.out.cell (i := 0) rfl;have x1 := kx.out.cell (i := 1) rfl;have x2 := kx.out.cell (i := 2) rfl;have y0 := ky.out.cell (i := 0) rfl;have y1 := ky.out.cell (i := 1) rfl;have y2 := ky.out.cell (i := 2) rfl;have z0 := kz.out.cell (i := 0) rfl;have z1 := kz.out.cell (i := 1) rfl;have z2 := kz.out.cell (i := 2) rfl
  go_wp2_with fail
  clear x0 x1 x2 y0 y1 y2 z0 z1 z2;((with_reducible refine (Q.out _).mono ?_); rintro e wn ⟨rfl, hbn⟩);replace HB := Lib.hid (HB.out.trans (hbn.mono HB.out.size));replace kx := Lib.hid (kx.out.keep hbn);replace ky := Lib.hid (ky.out.keep hbn);replace kz := Lib.hid (kz.out.keep hbn);clear hbn
  go_upto_region 2 with fail
  have hbn := below_new1 wn (.cells #[.int .i64 0, .int .i64 0, .int .i64 0] 57);replace HB := Lib.hid (HB.out.trans (hbn.mono HB.out.size));replace kx := Lib.hid (kx.out.keep hbn);replace ky := Lib.hid (ky.out.keep hbn);replace kz := Lib.hid (kz.out.keep hbn);have kn := Lib.hid (Lok.new wn 57 #[.int .i64 0, .int .i64 0, .int .i64 0]);clear hbn;generalize wn.alloc (.cells #[.int .i64 0, .int .i64 0, .int .i64 0] 57) = Vn at *;generalize wn.heap.size = gn at *
  go_wp2
  go_ret3
  exact ⟨rfl, HB.out⟩
 | true =>
  rw [vF_yes, vF_yes, vF_yes, show rE true = 0 from rfl] at Q;obtain ⟨i1, i2, i3⟩ := normal_i64 ht;generalize ar a2 a3 b2 b3 c2 c3 = n1 at *;generalize ar a3 a1 b3 b1 c3 c1 = n2 at *;generalize ar a1 a2 b1 b2 c1 c2 = n3 at *;clear ht
  cases hz : q3 n1 n2 n3 0 0 0 with
  | true =>
   rw [show fcA true n1 n2 n3 = 0 from if_neg (by rw [hz]; simp), show fcS true n1 n2 n3 = 0 from if_neg (by rw [hz]; simp), show fcE true n1 n2 n3 = 3 from by unfold fcE; rw [hz]; rfl];clear i1 i2 i3
   go_enter Tryz.func50, Tryz.ntmps50
   go_upto_region 1 with fail
   have hbx := below_new1 w (.cells #[.int .i64 a1, .int .i64 a2, .int .i64 a3] 57)
   have zx : (w.alloc (.cells #[.int .i64 a1, .int .i64 a2, .int .i64 a3] 57)).heap.size = w.heap.size + 1 := by simp
   have HB := Lib.hid hbx;have kx := Lib.hid (Lok.new w 57 #[.int .i64 a1, .int .i64 a2, .int .i64 a3]);clear hbx;generalize w.alloc (.cells #[.int .i64 a1, .int .i64 a2, .int .i64 a3] 57) = Vx at *;have hby := below_new1 Vx (.cells #[.int .i64 b1, .int .i64 b2, .int .i64 b3] 57);replace kx := Lib.hid (kx.out.keep hby)
   have zy : (Vx.alloc (.cells #[.int .i64 b1, .int .i64 b2, .int .i64 b3] 57)).heap.size = Vx.heap.size + 1 := by simp
   replace HB := Lib.hid (HB.out.trans (hby.mono HB.out.size));have ky := Lib.hid (Lok.new Vx 57 #[.int .i64 b1, .int .i64 b2, .int .i64 b3]);clear hby;generalize Vx.alloc (.cells #[.int .i64 b1, .int .i64 b2, .int .i64 b3] 57) = Vy at *;rw [zx] at ky zy;have hbz := below_new1 Vy (.cells #[.int .i64 c1, .int .i64 c2, .int .i64 c3] 57);replace kx := Lib.hid (kx.out.keep hbz);replace ky := Lib.hid (ky.out.keep hbz)
   have zz : (Vy.alloc (.cells #[.int .i64 c1, .int .i64 c2, .int .i64 c3] 57)).heap.size = Vy.heap.size + 1 := by simp
   replace HB := Lib.hid (HB.out.trans (hbz.mono HB.out.size));have kz := Lib.hid (Lok.new Vy 57 #[.int .i64 c1, .int .i64 c2, .int .i64 c3]);clear hbz;generalize Vy.alloc (.cells #[.int .i64 c1, .int .i64 c2, .int .i64 c3] 57) = Vz at *;rw [zy] at kz;clear zx zy zz;have x0 := kx.out.cell (i := 0) rfl;have x1 := kx.out.cell (i := 1) rfl;have x2 := kx.out.cell (i := 2) rfl;have y0 := ky.out.cell (i := 0) rfl;have y1 := ky.out.cell (i := 1) rfl;have y2 := ky.out.cell (i := 2) rfl;have z0 := kz.out.cell (i := 0) rfl;have z1 := kz.out.cell (i := 1) rfl;have z2 := kz.out.cell (i := 2) rfl
   go_wp2_with fail
   clear x0 x1 x2 y0 y1 y2 z0 z1 z2;((with_reducible refine (Q.out _).mono ?_); rintro e wn ⟨rfl, hbn⟩);replace HB := Lib.hid (HB.out.trans (hbn.mono HB.out.size));replace kx := Lib.hid (kx.out.keep hbn);replace ky := Lib.hid (ky.out.keep hbn);replace kz := Lib.hid (kz.out.keep hbn);clear hbn
   go_upto_region 2 with fail
   have hbn := below_new1 wn (.cells #[.int .i64 n1, .int .i64 n2, .int .i64 n3] 57);replace HB := Lib.hid (HB.out.trans (hbn.mono HB.out.size));replace kx := Lib.hid (kx.out.keep hbn);replace ky := Lib.hid (ky.out.keep hbn);replace kz := Lib.hid (kz.out.keep hbn);have kn := Lib.hid (Lok.new wn 57 #[.int .i64 n1, .int .i64 n2, .int .i64 n3]);clear hbn;generalize wn.alloc (.cells #[.int .i64 n1, .int .i64 n2, .int .i64 n3] 57) = Vn at *;generalize wn.heap.size = gn at *;have n0 := kn.out.cell (i := 0) rfl;have n1 := kn.out.cell (i := 1) rfl;have n2 := kn.out.cell (i := 2) rfl
   go_wp2
   go_ret3
   exact ⟨rfl, HB.out⟩
  | false =>
   rw [show fcA true n1 n2 n3 = (axF n1 n2 n3 3 : Int) from if_pos ⟨rfl, hz⟩, show fcS true n1 n2 n3 = ordI (pt n1 n2 n3 (axF n1 n2 n3 3)) 0 from if_pos ⟨rfl, hz⟩, show fcE true n1 n2 n3 = 0 from by unfold fcE; rw [hz]; rfl];have A := Lib.hid (fun W => axis_any n1 n2 n3 W i1 i2 i3);have SP := Lib.hid (fun W => sparts_any n1 n2 n3 W)
   have hm : axF n1 n2 n3 3 < 3 := by have := axF_lt n1 n2 n3 3; omega
   have SD := Lib.hid (fun W => side_any (pt n1 n2 n3 (axF n1 n2 n3 3)) W);generalize axF n1 n2 n3 3 = m at *;clear i1 i2 i3
   rcases show m = 0 ∨ m = 1 ∨ m = 2 by omega with rfl | rfl | rfl
   ·rw [show pt n1 n2 n3 0 = n1 from rfl] at SD ⊢
    generalize ordI n1 0 = s at *;clear hm
    have ix : ∀ W : World, (Instr.index 112 (.agg #[.int .i64 n1, .int .i64 n2, .int .i64 n3]) (.int .i64 0)).run Tryz.prog W = .ok (.int .i64 n1) W := fun _ => by kernel_rfl
    go_enter Tryz.func50, Tryz.ntmps50
    go_upto_region 1 with fail
    have hbx := below_new1 w (.cells #[.int .i64 a1, .int .i64 a2, .int .i64 a3] 57)
    have zx : (w.alloc (.cells #[.int .i64 a1, .int .i64 a2, .int .i64 a3] 57)).heap.size = w.heap.size + 1 := by simp
    have HB := Lib.hid hbx;have kx := Lib.hid (Lok.new w 57 #[.int .i64 a1, .int .i64 a2, .int .i64 a3]);clear hbx;generalize w.alloc (.cells #[.int .i64 a1, .int .i64 a2, .int .i64 a3] 57) = Vx at *;have hby := below_new1 Vx (.cells #[.int .i64 b1, .int .i64 b2, .int .i64 b3] 57);replace kx := Lib.hid (kx.out.keep hby)
    have zy : (Vx.alloc (.cells #[.int .i64 b1, .int .i64 b2, .int .i64 b3] 57)).heap.size = Vx.heap.size + 1 := by simp
    replace HB := Lib.hid (HB.out.trans (hby.mono HB.out.size));have ky := Lib.hid (Lok.new Vx 57 #[.int .i64 b1, .int .i64 b2, .int .i64 b3]);clear hby;generalize Vx.alloc (.cells #[.int .i64 b1, .int .i64 b2, .int .i64 b3] 57) = Vy at *;rw [zx] at ky zy;have hbz := below_new1 Vy (.cells #[.int .i64 c1, .int .i64 c2, .int .i64 c3] 57);replace kx := Lib.hid (kx.out.keep hbz);replace ky := Lib.hid (ky.out.keep hbz)
    have zz : (Vy.alloc (.cells #[.int .i64 c1, .int .i64 c2, .int .i64 c3] 57)).heap.size = Vy.heap.size + 1 := by simp
    replace HB := Lib.hid (HB.out.trans (hbz.mono HB.out.size));have kz := Lib.hid (Lok.new Vy 57 #[.int .i64 c1, .int .i64 c2, .int .i64 c3]);clear hbz;generalize Vy.alloc (.cells #[.int .i64 c1, .int .i64 c2, .int .i64 c3] 57) = Vz at *;rw [zy] at kz;clear zx zy zz;have x0 := kx.out.cell (i := 0) rfl;have x1 := kx.out.cell (i := 1) rfl;have x2 := kx.out.cell (i := 2) rfl;have y0 := ky.out.cell (i := 0) rfl;have y1 := ky.out.cell (i := 1) rfl;have y2 := ky.out.cell (i := 2) rfl;have z0 := kz.out.cell (i := 0) rfl;have z1 := kz.out.cell (i := 1) rfl;have z2 := kz.out.cell (i := 2) rfl
    go_wp2_with fail
    clear x0 x1 x2 y0 y1 y2 z0 z1 z2;((with_reducible refine (Q.out _).mono ?_); rintro e wn ⟨rfl, hbn⟩);replace HB := Lib.hid (HB.out.trans (hbn.mono HB.out.size));replace kx := Lib.hid (kx.out.keep hbn);replace ky := Lib.hid (ky.out.keep hbn);replace kz := Lib.hid (kz.out.keep hbn);clear hbn
    go_upto_region 2 with fail
    have hbn := below_new1 wn (.cells #[.int .i64 n1, .int .i64 n2, .int .i64 n3] 57);replace HB := Lib.hid (HB.out.trans (hbn.mono HB.out.size));replace kx := Lib.hid (kx.out.keep hbn);replace ky := Lib.hid (ky.out.keep hbn);replace kz := Lib.hid (kz.out.keep hbn);have kn := Lib.hid (Lok.new wn 57 #[.int .i64 n1, .int .i64 n2, .int .i64 n3]);clear hbn;generalize wn.alloc (.cells #[.int .i64 n1, .int .i64 n2, .int .i64 n3] 57) = Vn at *;generalize wn.heap.size = gn at *;have n0 := kn.out.cell (i := 0) rfl;have n1 := kn.out.cell (i := 1) rfl;have n2 := kn.out.cell (i := 2) rfl
    go_wp2_with fail
    clear n0 n1 n2
    (((with_reducible refine (A.out _).mono ?_); rintro e w2 ⟨rfl, hb2⟩); replace HB := Lib.hid (HB.out.trans (hb2.mono HB.out.size)); replace kn := Lib.hid (kn.out.keep hb2); clear hb2)
    have n0 := kn.out.cell (i := 0) rfl;have n1 := kn.out.cell (i := 1) rfl;have n2 := kn.out.cell (i := 2) rfl
    go_wp2_with fail
    clear n0 n1 n2
    (((with_reducible refine (SP.out _).mono ?_); rintro e w3 ⟨rfl, hb3⟩); replace HB := Lib.hid (HB.out.trans (hb3.mono HB.out.size)); replace kn := Lib.hid (kn.out.keep hb3); clear hb3)
    go_wp2_with fail
    (((with_reducible refine (SD.out _).mono ?_); rintro e w4 ⟨rfl, hb4⟩); replace HB := Lib.hid (HB.out.trans (hb4.mono HB.out.size)); clear hb4)
    go_wp2
    go_ret3
    exact ⟨rfl, HB.out⟩
   ·rw [show pt n1 n2 n3 1 = n2 from rfl] at SD ⊢
    generalize ordI n2 0 = s at *;clear hm
    have ix : ∀ W : World, (Instr.index 112 (.agg #[.int .i64 n1, .int .i64 n2, .int .i64 n3]) (.int .i64 1)).run Tryz.prog W = .ok (.int .i64 n2) W := fun _ => by kernel_rfl
    go_enter Tryz.func50, Tryz.ntmps50
    go_upto_region 1 with fail
    have hbx := below_new1 w (.cells #[.int .i64 a1, .int .i64 a2, .int .i64 a3] 57)
    have zx : (w.alloc (.cells #[.int .i64 a1, .int .i64 a2, .int .i64 a3] 57)).heap.size = w.heap.size + 1 := by simp
    have HB := Lib.hid hbx;have kx := Lib.hid (Lok.new w 57 #[.int .i64 a1, .int .i64 a2, .int .i64 a3]);clear hbx;generalize w.alloc (.cells #[.int .i64 a1, .int .i64 a2, .int .i64 a3] 57) = Vx at *;have hby := below_new1 Vx (.cells #[.int .i64 b1, .int .i64 b2, .int .i64 b3] 57);replace kx := Lib.hid (kx.out.keep hby)
    have zy : (Vx.alloc (.cells #[.int .i64 b1, .int .i64 b2, .int .i64 b3] 57)).heap.size = Vx.heap.size + 1 := by simp
    replace HB := Lib.hid (HB.out.trans (hby.mono HB.out.size));have ky := Lib.hid (Lok.new Vx 57 #[.int .i64 b1, .int .i64 b2, .int .i64 b3]);clear hby;generalize Vx.alloc (.cells #[.int .i64 b1, .int .i64 b2, .int .i64 b3] 57) = Vy at *;rw [zx] at ky zy;have hbz := below_new1 Vy (.cells #[.int .i64 c1, .int .i64 c2, .int .i64 c3] 57);replace kx := Lib.hid (kx.out.keep hbz);replace ky := Lib.hid (ky.out.keep hbz)
    have zz : (Vy.alloc (.cells #[.int .i64 c1, .int .i64 c2, .int .i64 c3] 57)).heap.size = Vy.heap.size + 1 := by simp
    replace HB := Lib.hid (HB.out.trans (hbz.mono HB.out.size));have kz := Lib.hid (Lok.new Vy 57 #[.int .i64 c1, .int .i64 c2, .int .i64 c3]);clear hbz;generalize Vy.alloc (.cells #[.int .i64 c1, .int .i64 c2, .int .i64 c3] 57) = Vz at *;rw [zy] at kz;clear zx zy zz;have x0 := kx.out.cell (i := 0) rfl;have x1 := kx.out.cell (i := 1) rfl;have x2 := kx.out.cell (i := 2) rfl;have y0 := ky.out.cell (i := 0) rfl;have y1 := ky.out.cell (i := 1) rfl;have y2 := ky.out.cell (i := 2) rfl;have z0 := kz.out.cell (i := 0) rfl;have z1 := kz.out.cell (i := 1) rfl;have z2 := kz.out.cell (i := 2) rfl
    go_wp2_with fail
    clear x0 x1 x2 y0 y1 y2 z0 z1 z2;((with_reducible refine (Q.out _).mono ?_); rintro e wn ⟨rfl, hbn⟩);replace HB := Lib.hid (HB.out.trans (hbn.mono HB.out.size));replace kx := Lib.hid (kx.out.keep hbn);replace ky := Lib.hid (ky.out.keep hbn);replace kz := Lib.hid (kz.out.keep hbn);clear hbn
    go_upto_region 2 with fail
    have hbn := below_new1 wn (.cells #[.int .i64 n1, .int .i64 n2, .int .i64 n3] 57);replace HB := Lib.hid (HB.out.trans (hbn.mono HB.out.size));replace kx := Lib.hid (kx.out.keep hbn);replace ky := Lib.hid (ky.out.keep hbn);replace kz := Lib.hid (kz.out.keep hbn);have kn := Lib.hid (Lok.new wn 57 #[.int .i64 n1, .int .i64 n2, .int .i64 n3]);clear hbn;generalize wn.alloc (.cells #[.int .i64 n1, .int .i64 n2, .int .i64 n3] 57) = Vn at *;generalize wn.heap.size = gn at *;have n0 := kn.out.cell (i := 0) rfl;have n1 := kn.out.cell (i := 1) rfl;have n2 := kn.out.cell (i := 2) rfl
    go_wp2_with fail
    clear n0 n1 n2
    (((with_reducible refine (A.out _).mono ?_); rintro e w2 ⟨rfl, hb2⟩); replace HB := Lib.hid (HB.out.trans (hb2.mono HB.out.size)); replace kn := Lib.hid (kn.out.keep hb2); clear hb2)
    have n0 := kn.out.cell (i := 0) rfl;have n1 := kn.out.cell (i := 1) rfl;have n2 := kn.out.cell (i := 2) rfl
    go_wp2_with fail
    clear n0 n1 n2
    (((with_reducible refine (SP.out _).mono ?_); rintro e w3 ⟨rfl, hb3⟩); replace HB := Lib.hid (HB.out.trans (hb3.mono HB.out.size)); replace kn := Lib.hid (kn.out.keep hb3); clear hb3)
    go_wp2_with fail
    (((with_reducible refine (SD.out _).mono ?_); rintro e w4 ⟨rfl, hb4⟩); replace HB := Lib.hid (HB.out.trans (hb4.mono HB.out.size)); clear hb4)
    go_wp2
    go_ret3
    exact ⟨rfl, HB.out⟩
   ·rw [show pt n1 n2 n3 2 = n3 from rfl] at SD ⊢
    generalize ordI n3 0 = s at *;clear hm
    have ix : ∀ W : World, (Instr.index 112 (.agg #[.int .i64 n1, .int .i64 n2, .int .i64 n3]) (.int .i64 2)).run Tryz.prog W = .ok (.int .i64 n3) W := fun _ => by kernel_rfl
    go_enter Tryz.func50, Tryz.ntmps50
    go_upto_region 1 with fail
    have hbx := below_new1 w (.cells #[.int .i64 a1, .int .i64 a2, .int .i64 a3] 57)
    have zx : (w.alloc (.cells #[.int .i64 a1, .int .i64 a2, .int .i64 a3] 57)).heap.size = w.heap.size + 1 := by simp
    have HB := Lib.hid hbx;have kx := Lib.hid (Lok.new w 57 #[.int .i64 a1, .int .i64 a2, .int .i64 a3]);clear hbx;generalize w.alloc (.cells #[.int .i64 a1, .int .i64 a2, .int .i64 a3] 57) = Vx at *;have hby := below_new1 Vx (.cells #[.int .i64 b1, .int .i64 b2, .int .i64 b3] 57);replace kx := Lib.hid (kx.out.keep hby)
    have zy : (Vx.alloc (.cells #[.int .i64 b1, .int .i64 b2, .int .i64 b3] 57)).heap.size = Vx.heap.size + 1 := by simp
    replace HB := Lib.hid (HB.out.trans (hby.mono HB.out.size));have ky := Lib.hid (Lok.new Vx 57 #[.int .i64 b1, .int .i64 b2, .int .i64 b3]);clear hby;generalize Vx.alloc (.cells #[.int .i64 b1, .int .i64 b2, .int .i64 b3] 57) = Vy at *;rw [zx] at ky zy;have hbz := below_new1 Vy (.cells #[.int .i64 c1, .int .i64 c2, .int .i64 c3] 57);replace kx := Lib.hid (kx.out.keep hbz);replace ky := Lib.hid (ky.out.keep hbz)
    have zz : (Vy.alloc (.cells #[.int .i64 c1, .int .i64 c2, .int .i64 c3] 57)).heap.size = Vy.heap.size + 1 := by simp
    replace HB := Lib.hid (HB.out.trans (hbz.mono HB.out.size));have kz := Lib.hid (Lok.new Vy 57 #[.int .i64 c1, .int .i64 c2, .int .i64 c3]);clear hbz;generalize Vy.alloc (.cells #[.int .i64 c1, .int .i64 c2, .int .i64 c3] 57) = Vz at *;rw [zy] at kz;clear zx zy zz;have x0 := kx.out.cell (i := 0) rfl;have x1 := kx.out.cell (i := 1) rfl;have x2 := kx.out.cell (i := 2) rfl;have y0 := ky.out.cell (i := 0) rfl;have y1 := ky.out.cell (i := 1) rfl;have y2 := ky.out.cell (i := 2) rfl;have z0 := kz.out.cell (i := 0) rfl;have z1 := kz.out.cell (i := 1) rfl;have z2 := kz.out.cell (i := 2) rfl
    go_wp2_with fail
    clear x0 x1 x2 y0 y1 y2 z0 z1 z2;((with_reducible refine (Q.out _).mono ?_); rintro e wn ⟨rfl, hbn⟩);replace HB := Lib.hid (HB.out.trans (hbn.mono HB.out.size));replace kx := Lib.hid (kx.out.keep hbn);replace ky := Lib.hid (ky.out.keep hbn);replace kz := Lib.hid (kz.out.keep hbn);clear hbn
    go_upto_region 2 with fail
    have hbn := below_new1 wn (.cells #[.int .i64 n1, .int .i64 n2, .int .i64 n3] 57);replace HB := Lib.hid (HB.out.trans (hbn.mono HB.out.size));replace kx := Lib.hid (kx.out.keep hbn);replace ky := Lib.hid (ky.out.keep hbn);replace kz := Lib.hid (kz.out.keep hbn);have kn := Lib.hid (Lok.new wn 57 #[.int .i64 n1, .int .i64 n2, .int .i64 n3]);clear hbn;generalize wn.alloc (.cells #[.int .i64 n1, .int .i64 n2, .int .i64 n3] 57) = Vn at *;generalize wn.heap.size = gn at *;have n0 := kn.out.cell (i := 0) rfl;have n1 := kn.out.cell (i := 1) rfl;have n2 := kn.out.cell (i := 2) rfl
    go_wp2_with fail
    clear n0 n1 n2
    (((with_reducible refine (A.out _).mono ?_); rintro e w2 ⟨rfl, hb2⟩); replace HB := Lib.hid (HB.out.trans (hb2.mono HB.out.size)); replace kn := Lib.hid (kn.out.keep hb2); clear hb2)
    have n0 := kn.out.cell (i := 0) rfl;have n1 := kn.out.cell (i := 1) rfl;have n2 := kn.out.cell (i := 2) rfl
    go_wp2_with fail
    clear n0 n1 n2
    (((with_reducible refine (SP.out _).mono ?_); rintro e w3 ⟨rfl, hb3⟩); replace HB := Lib.hid (HB.out.trans (hb3.mono HB.out.size)); replace kn := Lib.hid (kn.out.keep hb3); clear hb3)
    go_wp2_with fail
    (((with_reducible refine (SD.out _).mono ?_); rintro e w4 ⟨rfl, hb4⟩); replace HB := Lib.hid (HB.out.trans (hb4.mono HB.out.size)); clear hb4)
    go_wp2
    go_ret3
    exact ⟨rfl, HB.out⟩
end Go.Proofs.YtcnbbanpnoigdaaGreat
