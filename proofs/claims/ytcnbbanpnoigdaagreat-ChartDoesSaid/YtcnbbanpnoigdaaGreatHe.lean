import Derived.Test.YtcnbbanpnoigdaaGreatHc
import Derived.IntWalk
import Derived.Test.YtcnbbanpnoigdaaGreatHd
import Derived.Test.YtcnbbanpnoigdaaGreatHb
import Derived.RangeFuncNested
import Derived.RangeFuncBound
import Derived.RangeFuncCalls
import Derived.RangeFuncLeaves
import Derived.Shelf.Abstract
import Derived.Shelf.RegionOpen
import Derived.WalkKit
import Derived.OwnWalkIn
import Derived.TacticsInMore
import Derived.LoopNIn
import Derived.LoopIn
namespace Go.Proofs.YtcnbbanpnoigdaaGreat

def eS (f1 f2 t1 t2 h1 h2 p1 p2 : Int) : Int := ordI (ar f1 f2 t1 t2 p1 p2) 0 * ordI (ar f1 f2 t1 t2 h1 h2) 0
theorem ord_bd (a b : Int) : -1 ≤ ordI a b ∧ ordI a b ≤ 1 := by
 rcases ordI_ways a b with ⟨_, e⟩ | ⟨_, e⟩ | ⟨_, e⟩ <;> rw [e] <;> omega
theorem unit_mul {a b : Int} (h : -1 ≤ a ∧ a ≤ 1) (k : -1 ≤ b ∧ b ≤ 1) : -1 ≤ a * b ∧ a * b ≤ 1 := by
 rcases (show a = -1 ∨ a = 0 ∨ a = 1 by omega) with rfl | rfl | rfl <;> simp <;> omega
theorem eS_bd (f1 f2 t1 t2 h1 h2 p1 p2 : Int) : -1 ≤ eS f1 f2 t1 t2 h1 h2 p1 p2 ∧ eS f1 f2 t1 t2 h1 h2 p1 p2 ≤ 1 := unit_mul (ord_bd _ _) (ord_bd _ _)
def mx (s : Nat → Int) : Nat → Int
 | 0 => -1
 | k + 1 => max (mx s k) (s k)
theorem mx_bd {s : Nat → Int} (h : ∀ i, -1 ≤ s i ∧ s i ≤ 1) : ∀ n, -1 ≤ mx s n ∧ mx s n ≤ 1
 | 0 => by simp [mx]
 | n + 1 => by have := mx_bd h n; have := h n; unfold mx; omega
def rT (a1 a2 b1 b2 c1 c2 : Int) : Bool := (s2 a1 a2 && s2 b1 b2 && s2 c1 c2) && (ar a1 a2 b1 b2 c1 c2 != 0)
def rc (a1 a2 b1 b2 c1 c2 : Int) (F : Nat → Nat → Int) (n : Nat) : Int :=
 min (min (min 1 (mx (fun i => eS a1 a2 b1 b2 c1 c2 (F i 0) (F i 1)) n)) (mx (fun i => eS b1 b2 c1 c2 a1 a2 (F i 0) (F i 1)) n)) (mx (fun i => eS c1 c2 a1 a2 b1 b2 (F i 0) (F i 1)) n)
end Go.Proofs.YtcnbbanpnoigdaaGreat
namespace Go.Proofs.YtcnbbanpnoigdaaGreat
open Go.RowKit

set_option maxRecDepth 100000 in
set_option maxHeartbeats 4000000 in
theorem right_any (a1 a2 b1 b2 c1 c2 : Int) (w : World) :
  Calls Tryz.prog 128 #[.agg #[.int .i64 a1, .int .i64 a2, .int .i64 b1, .int .i64 b2, .int .i64 c1, .int .i64 c2]] w fun e' w' => e' = .returned (.bool (rT a1 a2 b1 b2 c1 c2)) ∧ Below w.heap.size w w' := by
 have HB := Lib.hid (Below.refl w.heap.size w);obtain ⟨t, ht⟩ : ∃ t, (s2 a1 a2 && s2 b1 b2 && s2 c1 c2) = t := ⟨_, rfl⟩;have P := Lib.hid (fun W => area_any a1 a2 b1 b2 c1 c2 t ht W)
 have e : rT a1 a2 b1 b2 c1 c2 = (vF t (ar a1 a2 b1 b2 c1 c2) != 0) := by
  unfold rT; rw [ht]; cases t <;> simp [vF]
 rw [e];generalize vF t (ar a1 a2 b1 b2 c1 c2) = n at *;generalize rE t = e0 at *;clear ht e
 go_enter Tryz.func128, Tryz.ntmps128
 go_upto_region 1 with fail
 have hbx := below_new1 w (.cells #[.int .i64 a1, .int .i64 a2, .int .i64 b1, .int .i64 b2, .int .i64 c1, .int .i64 c2] 37)
 have zx : (w.alloc (.cells #[.int .i64 a1, .int .i64 a2, .int .i64 b1, .int .i64 b2, .int .i64 c1, .int .i64 c2] 37)).heap.size = w.heap.size + 1 := by simp
 have HB := Lib.hid hbx;have kx := Lib.hid (Lok.new w 37 #[.int .i64 a1, .int .i64 a2, .int .i64 b1, .int .i64 b2, .int .i64 c1, .int .i64 c2]);clear hbx;generalize w.alloc (.cells #[.int .i64 a1, .int .i64 a2, .int .i64 b1, .int .i64 b2, .int .i64 c1, .int .i64 c2] 37) = Vx at *;clear zx;have x0 := kx.out.cell (i := 0) rfl;have x1 := kx.out.cell (i := 1) rfl;have x2 := kx.out.cell (i := 2) rfl;have x3 := kx.out.cell (i := 3) rfl;have x4 := kx.out.cell (i := 4) rfl;have x5 := kx.out.cell (i := 5) rfl
 go_wp2_with fail
 clear x0 x1 x2 x3 x4 x5
 (((with_reducible refine (P.out _).mono ?_); rintro e w1 ⟨rfl, hb1⟩); replace HB := Lib.hid (HB.out.trans (hb1.mono HB.out.size)); clear hb1)
 go_wp2
 go_ret
 exact ⟨rfl, HB.out⟩
set_option maxRecDepth 100000 in
set_option maxHeartbeats 4000000 in
theorem told_any (f1 f2 t1 t2 p1 p2 turn : Int) (hs : (s2 f1 f2 && s2 t1 t2 && s2 p1 p2) = true) (hu : -1 ≤ turn ∧ turn ≤ 1) (g4 g5 g7 : Nat) (w : World)
  (h4 : Lok w g4 36 #[.int .i64 f1, .int .i64 f2]) (h5 : Lok w g5 36 #[.int .i64 t1, .int .i64 t2]) (h7 : Lok w g7 3 #[.int .i64 turn]) :
  Calls Tryz.prog 137 #[.agg #[.int .i64 p1, .int .i64 p2], .pointer (some ⟨g4, 0, none⟩), .pointer (some ⟨g5, 0, none⟩), .pointer (some ⟨g7, 0, none⟩)] w fun e' w' => e' = .returned (.int .i64 (ordI (ar f1 f2 t1 t2 p1 p2) 0 * turn)) ∧ Below w.heap.size w w' := by
 have HB := Lib.hid (Below.refl w.heap.size w);have K4 := Lib.hid h4;have K5 := Lib.hid h5;have K7 := Lib.hid h7;have P := Lib.hid (fun W => sideOf_any f1 f2 t1 t2 p1 p2 true hs W);rw [vF_yes, show rE true = 0 from rfl] at P;have hn := ord_bd (ar f1 f2 t1 t2 p1 p2) 0;generalize ordI (ar f1 f2 t1 t2 p1 p2) 0 = n at *;have hw : IntKind.i64.wrap (n * turn) = n * turn := IntWalk.i64_in _ (by have := unit_mul hn hu; omega);clear hs hn hu h4 h5 h7
 go_enter Tryz.func137, Tryz.ntmps137
 go_upto_region 1 with fail
 have hbx := below_new1 w (.cells #[.int .i64 p1, .int .i64 p2] 36);replace K4 := Lib.hid (K4.out.keep hbx);replace K5 := Lib.hid (K5.out.keep hbx);replace K7 := Lib.hid (K7.out.keep hbx)
 have zx : (w.alloc (.cells #[.int .i64 p1, .int .i64 p2] 36)).heap.size = w.heap.size + 1 := by simp
 have HB := Lib.hid hbx;have kx := Lib.hid (Lok.new w 36 #[.int .i64 p1, .int .i64 p2]);clear hbx;generalize w.alloc (.cells #[.int .i64 p1, .int .i64 p2] 36) = Vx at *;clear zx;have x0 := kx.out.cell (i := 0) rfl;have x1 := kx.out.cell (i := 1) rfl;have u0 := K4.out.cell (i := 0) rfl;have u1 := K4.out.cell (i := 1) rfl;have v0 := K5.out.cell (i := 0) rfl;have v1 := K5.out.cell (i := 1) rfl
 go_wp2_with fail
 clear x0 x1 u0 u1 v0 v1
 (((with_reducible refine (P.out _).mono ?_); rintro e w1 ⟨rfl, hb1⟩); replace HB := Lib.hid (HB.out.trans (hb1.mono HB.out.size)); replace K7 := Lib.hid (K7.out.keep hb1); clear hb1)
 have y0 := K7.out.cell (i := 0) rfl
 go_wp2
 go_ret
 exact ⟨rfl, HB.out⟩
set_option maxRecDepth 100000 in
set_option maxHeartbeats 4000000 in
theorem innermost_any (sd : Nat → Int) (q4 q5 q7 : Value) (A : Option Addr) (n c : Nat) (F : Nat → Nat → Int) (w : World) (hr : RowK w A n 2 F) (hn : n ≤ 1000000) (hsd : ∀ i, -1 ≤ sd i ∧ sd i ≤ 1)
  (H : ∀ W, Below w.heap.size w W → ∀ i, i < n → Calls Tryz.prog 137 #[.agg #[.int .i64 (F i 0), .int .i64 (F i 1)], q4, q5, q7] W fun e w' => e = .returned (.int .i64 (sd i)) ∧ Below W.heap.size W w') :
  Calls Tryz.prog 133 #[.func (.func 137) #[] #[q4, q5, q7], .slice A n c] w fun e w' => e = .returned (.int .i64 (mx sd n)) ∧ Below w.heap.size w w' := by
 have R := Lib.hid hr;have HH := Lib.hid H;have HS := Lib.hid hsd;clear hr H hsd
 have wn : ((n : Nat) : Int) ≤ 1000000 := by omega
 go_enter Tryz.func133, Tryz.ntmps133
 go_wp2_with fail
 go_loopw [10, 5] (fun x g wr => ∃ k : Nat, x = .int .i64 k ∧ k ≤ n ∧ g = .int .i64 (mx sd k) ∧ Below w.heap.size w wr) (fun x _ _ => n - (intOf x).toNat)
 case atStart => exact ⟨0, rfl, Nat.zero_le _, rfl, by (repeat (first | exact Below.refl _ _ | assumption | refine Below.drew ?_ | refine below_drewN ?_ _ | refine Below.setCell ?_ (by first | omega | (simp; done) | (simp; omega)) _ | refine Below.alloc ?_ (by first | omega | (simp; done) | (simp; omega)) _))⟩
 case round =>
  obtain ⟨k, rfl, hk, rfl, hB⟩ := hrel;have HB := Lib.hid hB;have hm := mx_bd HS.out k
  by_cases hlt : k < n
  ·obtain ⟨b, o, rfl, hb, hc⟩ := (R.out.keep hB).at hlt
   have c0 := hc k hlt 0 (by omega);have c1 := hc k hlt 1 (by omega);rw [Nat.add_zero] at c0;rw [← Nat.add_assoc] at c1;have C := Lib.hid (fun W hb => HH.out W hb k hlt);have hs := HS.out k;have em : mx sd (k + 1) = max (mx sd k) (sd k) := rfl;generalize F k 0 = x at *;generalize F k 1 = y at *;generalize sd k = s at *;have EM := Lib.hid em;clear hc hB em;generalize mx sd k = m at *
   have i0 : (0 : Int) ≤ (k : Int) := by omega
   have i1 : (k : Int) < (n : Int) := by omega
   have i2 : ((k : Int)).toNat = k := by omega
   go_upto_region 5 with fail
   have hbp := below_new1 wr (.cells #[.int .i64 x, .int .i64 y] 36)
   have zp : (wr.alloc (.cells #[.int .i64 x, .int .i64 y] 36)).heap.size = wr.heap.size + 1 := by simp
   replace HB := Lib.hid (HB.out.trans (hbp.mono HB.out.size));have kp := Lib.hid (Lok.new wr 36 #[.int .i64 x, .int .i64 y]);clear hbp;generalize wr.alloc (.cells #[.int .i64 x, .int .i64 y] 36) = Vp at *;clear zp;clear c0 c1;have c0 := kp.out.cell (i := 0) rfl;have c1 := kp.out.cell (i := 1) rfl
   go_wp2_with fail
   (((with_reducible refine (C.out _ HB.out).mono ?_); rintro e w1 ⟨rfl, hb1⟩); replace HB := Lib.hid (HB.out.trans (hb1.mono HB.out.size)); clear hb1)
   clear C c0 c1
   go_wp2
   go_roundw
   case rel => exact ⟨k + 1, by go_num, hlt, by rw [EM.out], HB.out⟩
   case measure => simp [intOf]; omega
  ·obtain rfl : k = n := by omega
   clear hB
   go_wp2
   go_ret
   exact ⟨rfl, HB.out⟩
end Go.Proofs.YtcnbbanpnoigdaaGreat
namespace Go.Proofs.YtcnbbanpnoigdaaGreat
open Go.RowKit Go.Shelf

def Abided (J : World → Prop) : Prop := ∀ W W', J W → Below W.heap.size W W' → J W'
def Booked (B : Nat) (J : World → Prop) : Prop := ∀ (W : World) (l : Nat) (o o' : Obj), J W → B ≤ l → W.heap[l]? = some o → o.isCells = false → o.isWalk = false → J (W.putObj l o')

theorem Booked.and {B : Nat} {J K : World → Prop} (h : Booked B J) (k : Booked B K) : Booked B (fun W => J W ∧ K W) := fun W l o o' hj hl ho h1 h2 => ⟨h W l o o' hj.1 hl ho h1 h2, k W l o o' hj.2 hl ho h1 h2⟩
theorem Abided.and {J K : World → Prop} (h : Abided J) (k : Abided K) : Abided (fun W => J W ∧ K W) := fun W W' hj hb => ⟨h W W' hj.1 hb, k W W' hj.2 hb⟩
theorem lok_abided (g : Nat) (t : TypeId) (cs : Array Value) : Abided (fun W => Lok W g t cs) := fun _ _ h hb => h.keep hb
theorem lok_booked (B g : Nat) (t : TypeId) (cs : Array Value) : Booked B (fun W => Lok W g t cs) := fun W l o o' h _ ho h1 _ => by
 have hne : g ≠ l := fun e => by
  subst e;rw [show W.heap[g]? = _ from h] at ho
  cases ho
  cases h1
 exact (World.putObj_heap_other hne).trans h
theorem below_put {B : Nat} {V W : World} {l : Nat} {o' : Obj} (h : Below B V W) (hl : B ≤ l) : Below B V (W.putObj l o') :=
 ⟨h.os, h.tape, h.output, by rw [World.putObj_size]; exact h.size, fun k hk => (World.putObj_heap_other (by omega)).trans (h.block k hk)⟩
theorem below_booked {B n : Nat} (V : World) (hn : n ≤ B) : Booked B (fun W => Below n V W) := fun _ _ _ _ h hl _ _ _ => below_put h (by omega)
theorem below_abided (n : Nat) (V : World) (hn : n ≤ V.heap.size) : Abided (fun W => Below n V W) := fun _ _ h hb => h.trans (hb.mono (Nat.le_trans hn h.size))

def Gives (P : Program) (gf : Nat) (lb : Array Value) (N : Nat) (Kc : World → Prop) (Px : Nat → Value → World → Prop) : Prop :=
 ∀ (n l : Nat) (J : Nat → World → Prop) (Jx : World → Prop), (∀ k, Abided (J k)) → (∀ k W, J k W → Kc W) →
  (∀ k v W, k < N → J k W → Px k v W → YieldAt Fence.wide n P l #[v] W fun e W' => (e = .returned (.bool true) ∧ J (k + 1) W') ∨ (e = .returned (.bool false) ∧ Jx W')) →
  ∀ W, J 0 W → Calls P gf (#[.func (.yield l) #[] #[]] ++ lb) W fun e W' => (∃ v, e = .returned v) ∧ (J N W' ∨ Jx W')

def roundOut (J : Nat → World → Prop) (Jx : World → Prop) (k id : Nat) (W : World) : Exit → Act → World → Prop
 | .normal, _, W' => KeepsOthers W W' ∧ J (k + 1) W'
 | .exit i, _, W' => i = id ∧ KeepsOthers W W' ∧ Jx W'
 | _, _, _ => False

theorem wp_range {P : Program} {g : Operand} {p : Tmp} {assign body : Code} {Q : Exit → Act → World → Prop} {a : Act} {w : World} {gf : Nat} {lb : Array Value}
  (hg : a.eval g = .func (.func gf) #[] lb) (eg : ∀ args w, (callFunc gf args).run P w = .ok (.enter gf args) w)
  {N : Nat} {Kc : World → Prop} {Px : Nat → Value → World → Prop} (hit : Gives P gf lb N Kc Px)
  (J : Nat → World → Prop) (Jx : World → Prop) (id : Nat) (hJ : ∀ k, Abided (J k)) (hK : ∀ k W, J k W → Kc W) (hJb : ∀ k, Booked w.heap.size (J k)) (hXb : Booked w.heap.size Jx) (hPb : ∀ k v, Booked w.heap.size (Px k v))
  (h0 : J 0 w) (a₁ : Value → Act)
  (hassign : ∀ (l : Nat) (v : Value) (W : World) (K : Act → World → Prop), K (a₁ v) W →
   assign.wpIn (Fence.wide.inRound l) 3 P (Exit.then K (fun _ _ _ => False)) { tmps := a.tmps.setIfInBounds p v, defers := [] } W)
  (hbody : ∀ (l k : Nat) (v : Value) (W : World), k < N → J k W → Px k v W → body.wpIn (Fence.wide.inRound l) 3 P (roundOut J Jx k id W) (a₁ v) W)
  (hdone : ∀ (D : Nat) (W : World), w.heap.size ≤ D → J N W → W.heap[D]? = some (.deferred (some [])) → Q .normal { a with defers := { target := .collected D, args := #[] } :: a.defers } W)
  (hstop : ∀ (D : Nat) (W : World), w.heap.size ≤ D → Jx W → W.heap[D]? = some (.deferred (some [])) → (Code.exit id).wp P Q { a with defers := { target := .collected D, args := #[] } :: a.defers } W) :
  (Code.rangeFunc g #[p] assign body).wp P Q a w := by
 refine wpIn_wide (n := 4).1 (wpIn_rangeFunc fun fn _ => ?_)
 obtain ⟨rc, hrc⟩ : ∃ rc : LoopState → Option Code → Loop, rc = fun st pe => { state := st, pending := pe, fn, tmps := a.tmps, params := #[p], assign, body, defers := w.heap.size } := ⟨_, rfl⟩;obtain ⟨V, hV⟩ : ∃ V, (w.alloc (.deferred (some []))).alloc (.loop (rc .ready none)) = V := ⟨_, rfl⟩
 have hbV : Below w.heap.size w V := by rw [← hV]; exact ((Below.refl _ w).alloc (Nat.le_refl _) _).alloc (by simp) _
 have hV1 : V.heap[w.heap.size + 1]? = some (.loop (rc .ready none)) := by
  rw [← hV]; have := World.alloc_heap_new (w.alloc (.deferred (some []))) (.loop (rc .ready none)); rwa [World.size_alloc] at this
 have hV0 : V.heap[w.heap.size]? = some (.deferred (some [])) := by
  rw [← hV]; exact (Below.heap_alloc _ _ _ (by simp)).trans (World.alloc_heap_new w _)
 refine ⟨w.heap.size + 1, [{ target := .collected w.heap.size, args := #[] }], V, { target := .fn (.func gf) lb, args := #[.func (.yield (w.heap.size + 1)) #[] #[]] }, V, gf,
  #[.func (.yield (w.heap.size + 1)) #[] #[]] ++ lb, V, ?_, ?_, fun _ _ => trivial, ?_, (fun _ => by omega), ?_⟩
 ·rw [← hV, hrc]; exact run_enterLoop_outer _ _ _ _ _
 ·simp only [resolve, hg]
  simp [go_sem]
 ·simp [invoke, go_sem, eg]
 ·-- the record's two states between two rounds, beside the caller's own condition
  refine callsIn_wide.2 ((hit 3 (w.heap.size + 1)
   (fun k W => J k W ∧ W.heap[w.heap.size + 1]? = some (.loop (rc .ready none)) ∧ W.heap[w.heap.size]? = some (.deferred (some [])))
   (fun W => Jx W ∧ W.heap[w.heap.size + 1]? = some (.loop (rc .done (some (.exit id)))) ∧ W.heap[w.heap.size]? = some (.deferred (some [])))
   (fun k W W' h hb => ⟨hJ k W W' h.1 hb, (hb.block _ (Array.getElem?_eq_some_iff.1 h.2.1).1).trans h.2.1, (hb.block _ (Array.getElem?_eq_some_iff.1 h.2.2).1).trans h.2.2⟩)
   (fun k W h => hK k W h.1) ?_ V ⟨hJ 0 _ _ h0 hbV, hV1, hV0⟩).mono ?_)
  ·rintro k v W hk ⟨hj, hl, hd⟩ hp
   have hlt := (Array.getElem?_eq_some_iff.1 hl).1;have hy := run_yield (P := P) (args := #[v]) hl (by rw [hrc]; rfl)
   refine ⟨fn, _, assign, body, by rw [hrc] at hy; simp at hy; exact hy, roundIn_of_wpIn trivial (hassign _ v W _ ⟨_, run_beginRound hl (by rw [hrc]), ?_⟩)⟩
   obtain ⟨U, hU⟩ : ∃ U, W.putObj (w.heap.size + 1) (.loop { rc .ready none with state := .busy }) = U := ⟨_, rfl⟩
   have hU1 : U.heap[w.heap.size + 1]? = some (.loop (rc .busy none)) := by rw [← hU, World.putObj_heap_same hlt]; rw [hrc]
   have hU0 : U.heap[w.heap.size]? = some (.deferred (some [])) := by rw [← hU]; exact (World.putObj_heap_other (by omega)).trans hd
   have hjU : J k U := by rw [← hU]; exact hJb k _ _ _ _ hj (by omega) hl rfl rfl
   have hpU : Px k v U := by rw [← hU]; exact hPb k v _ _ _ _ hp (by omega) hl rfl rfl
   rw [hU]
   refine wpIn_mono (hbody _ k v U hk hjU hpU) ?_
   rintro e a3 W3 ho
   have fin : ∀ (jump : Option Code), KeepsOthers U W3 → (Instr.endRound (w.heap.size + 1) jump).run P W3 = .ok (.bool jump.isNone) (W3.putObj (w.heap.size + 1) (.loop (rc (if jump.isNone then .ready else .done) jump))) ∧
     W3.heap[w.heap.size + 1]? = some (.loop (rc .busy none)) ∧ w.heap.size + 1 < W3.heap.size ∧ W3.heap[w.heap.size]? = some (.deferred (some [])) := fun jump hk => by
    have hl3 := hk.same _ _ hU1 rfl;have hr := run_endRound (P := P) jump hl3
    exact ⟨by rw [hr, hrc], hl3, (Array.getElem?_eq_some_iff.1 hl3).1, hk.same _ _ hU0 rfl⟩
   cases e with
   | normal =>
    obtain ⟨hk3, hj3⟩ := ho;obtain ⟨hr, h1, h2, h3⟩ := fin none hk3
    exact ⟨_, _, hr, .inl ⟨rfl, hJb _ _ _ _ _ hj3 (by omega) h1 rfl rfl, World.putObj_heap_same h2, (World.putObj_heap_other (by omega)).trans h3⟩⟩
   | exit i =>
    obtain ⟨rfl, hk3, hj3⟩ := ho;obtain ⟨hr, h1, h2, h3⟩ := fin (some (.exit i)) hk3
    exact ⟨_, _, hr, .inr ⟨rfl, hXb _ _ _ _ hj3 (by omega) h1 rfl rfl, World.putObj_heap_same h2, (World.putObj_heap_other (by omega)).trans h3⟩⟩
   | ret => exact ho.elim
   | goto t => exact ho.elim
   | panic c => exact ho.elim
   | outgrown => exact ho.elim
  ·rintro e W2 ⟨⟨v, rfl⟩, ⟨hj, hl, hd⟩ | ⟨hj, hl, hd⟩⟩
   ·refine ⟨none, _, by rw [run_endLoop (P := P) hl (by rw [hrc]; simp), hrc], hdone _ _ (Nat.le_refl _) (hJb _ _ _ _ _ hj (by omega) hl rfl rfl) ((World.putObj_heap_other (by omega)).trans hd)⟩
   ·refine ⟨some (.exit id), _, by rw [run_endLoop (P := P) hl (by rw [hrc]; simp), hrc], wpIn_wide.2 (hstop _ _ (Nat.le_refl _) (hXb _ _ _ _ hj (by omega) hl rfl rfl) ((World.putObj_heap_other (by omega)).trans hd))⟩
end Go.Proofs.YtcnbbanpnoigdaaGreat
