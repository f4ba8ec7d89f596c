import Derived.Test.YtcnbbanpnoigdaaGreatMtB
namespace Go.Proofs.YtcnbbanpnoigdaaGreat
open Go.RowKit

theorem keeps_below {W W' : World} (h : Below W.heap.size W W') : KeepsOthers W W' := ⟨h.size, fun k _ hk _ => (h.block k (Array.getElem?_eq_some_iff.1 hk).1).trans hk⟩

attribute [local go_sem] Oper.semAt_some
set_option maxRecDepth 100000 in
set_option maxHeartbeats 4000000 in
theorem edges_any (p1 p2 q1 q2 r1 r2 : Int) (w : World) :
  Calls Tryz.prog 132 #[.agg #[.int .i64 p1, .int .i64 p2, .int .i64 q1, .int .i64 q2, .int .i64 r1, .int .i64 r2]] w fun e w' => ∃ B : Nat, e = .returned (.func (.func 135) #[] #[.pointer (some ⟨B, 0, none⟩)]) ∧ Lok w' B 37 #[.int .i64 p1, .int .i64 p2, .int .i64 q1, .int .i64 q2, .int .i64 r1, .int .i64 r2] ∧ Below w.heap.size w w' := by
 go_enter Tryz.func132, Tryz.ntmps132
 go_upto_region 1 with fail
 have hbx := below_new1 w (.cells #[.int .i64 p1, .int .i64 p2, .int .i64 q1, .int .i64 q2, .int .i64 r1, .int .i64 r2] 37)
 have zx : (w.alloc (.cells #[.int .i64 p1, .int .i64 p2, .int .i64 q1, .int .i64 q2, .int .i64 r1, .int .i64 r2] 37)).heap.size = w.heap.size + 1 := by simp
 have HB := Lib.hid hbx;have kx := Lib.hid (Lok.new w 37 #[.int .i64 p1, .int .i64 p2, .int .i64 q1, .int .i64 q2, .int .i64 r1, .int .i64 r2]);clear hbx;generalize w.alloc (.cells #[.int .i64 p1, .int .i64 p2, .int .i64 q1, .int .i64 q2, .int .i64 r1, .int .i64 r2] 37) = Vx at *;clear zx
 go_wp2
 go_ret
 exact ⟨_, rfl, kx.out, HB.out⟩
def rk (p1 p2 q1 q2 r1 r2 : Int) (F : Nat → Nat → Int) (n : Nat) : Nat → Int
 | 0 => 1
 | k + 1 => min (rk p1 p2 q1 q2 r1 r2 F n k) (mx (fun i => eS (c3 p1 q1 r1 k) (c3 p2 q2 r2 k) (c3 q1 r1 p1 k) (c3 q2 r2 p2 k) (c3 r1 p1 q1 k) (c3 r2 p2 q2 k) (F i 0) (F i 1)) n)
theorem rk_three (p1 p2 q1 q2 r1 r2 : Int) (F : Nat → Nat → Int) (n : Nat) : rk p1 p2 q1 q2 r1 r2 F n 3 = rc p1 p2 q1 q2 r1 r2 F n := rfl
theorem rk_bd (p1 p2 q1 q2 r1 r2 : Int) (F : Nat → Nat → Int) (n k : Nat) : -1 ≤ rk p1 p2 q1 q2 r1 r2 F n k ∧ rk p1 p2 q1 q2 r1 r2 F n k ≤ 1 := by
 induction k with
 | zero => simp [rk]
 | succ k ih => have := mx_bd (s := fun i => eS (c3 p1 q1 r1 k) (c3 p2 q2 r2 k) (c3 q1 r1 p1 k) (c3 q2 r2 p2 k) (c3 r1 p1 q1 k) (c3 r2 p2 q2 k) (F i 0) (F i 1)) (fun i => eS_bd _ _ _ _ _ _ _ _) n; unfold rk; omega
theorem rk_down (p1 p2 q1 q2 r1 r2 : Int) (F : Nat → Nat → Int) (n k : Nat) : ∀ j, rk p1 p2 q1 q2 r1 r2 F n (k + j) ≤ rk p1 p2 q1 q2 r1 r2 F n k := by
 intro j
 induction j with
 | zero => exact Int.le_refl _
 | succ j ih =>
  have : rk p1 p2 q1 q2 r1 r2 F n (k + (j + 1)) ≤ rk p1 p2 q1 q2 r1 r2 F n (k + j) := Int.min_le_left _ _
  omega
theorem rk_low (p1 p2 q1 q2 r1 r2 : Int) (F : Nat → Nat → Int) (n k : Nat) (hk : k ≤ 3) (h : rk p1 p2 q1 q2 r1 r2 F n k = -1) : rc p1 p2 q1 q2 r1 r2 F n = -1 := by
 have := rk_down p1 p2 q1 q2 r1 r2 F n k (3 - k);rw [show k + (3 - k) = 3 from by omega, rk_three, h] at this;have h2 := (rk_bd p1 p2 q1 q2 r1 r2 F n 3).1;rw [rk_three] at h2
 omega
theorem small_c3 {a1 a2 b1 b2 c1 c2 : Int} (ha : s2 a1 a2 = true) (hb : s2 b1 b2 = true) (hc : s2 c1 c2 = true) (k : Nat) : s2 (c3 a1 b1 c1 k) (c3 a2 b2 c2 k) = true := by
 unfold c3
 rcases k with _ | _ | k <;> assumption
set_option maxRecDepth 100000 in
set_option maxHeartbeats 4000000 in
theorem reach_any (p1 p2 q1 q2 r1 r2 : Int) (hs : (s2 p1 p2 && s2 q1 q2 && s2 r1 r2) = true) (A : Option Addr) (n c : Nat) (F : Nat → Nat → Int) (w : World) (hr : RowK w A n 2 F) (hn : n ≤ 1000000) (hF : ∀ i, i < n → s2 (F i 0) (F i 1) = true) :
  Calls Tryz.prog 129 #[.agg #[.int .i64 p1, .int .i64 p2, .int .i64 q1, .int .i64 q2, .int .i64 r1, .int .i64 r2], .slice A n c] w fun e w' => e = .returned (.int .i64 (rc p1 p2 q1 q2 r1 r2 F n)) ∧ Below w.heap.size w w' := by
 have R := Lib.hid hr;have HF := Lib.hid hF;have HS := Lib.hid hs;have ED := Lib.hid (fun W => edges_any p1 p2 q1 q2 r1 r2 W);clear hr hF hs
 refine (callsIn_wide (n := 1)).1 ?_
 refine callsIn_of_wp_marks Tryz.func129 rfl trivial ?_ rfl
 simp only [Tryz.ntmps129, List.size_toArray, List.length_cons, List.length_nil, Nat.reduceAdd, Nat.reduceSub, Array.replicate_succ, Array.replicate_zero, List.push_toArray, List.append_toArray, List.nil_append, List.cons_append]
 refine wpIn_wide.2 ?_
 go_upto_region 1 with fail
 have hbt := below_new1 w (.cells #[.int .i64 p1, .int .i64 p2, .int .i64 q1, .int .i64 q2, .int .i64 r1, .int .i64 r2] 37)
 have zt : (w.alloc (.cells #[.int .i64 p1, .int .i64 p2, .int .i64 q1, .int .i64 q2, .int .i64 r1, .int .i64 r2] 37)).heap.size = w.heap.size + 1 := by simp
 have HB := Lib.hid hbt;have kt := Lib.hid (Lok.new w 37 #[.int .i64 p1, .int .i64 p2, .int .i64 q1, .int .i64 q2, .int .i64 r1, .int .i64 r2]);clear hbt;generalize w.alloc (.cells #[.int .i64 p1, .int .i64 p2, .int .i64 q1, .int .i64 q2, .int .i64 r1, .int .i64 r2] 37) = Vt at *;have hbo := below_new1 Vt (.cells #[.slice A n c] 23);replace kt := Lib.hid (kt.out.keep hbo)
 have zo : (Vt.alloc (.cells #[.slice A n c] 23)).heap.size = Vt.heap.size + 1 := by simp
 replace HB := Lib.hid (HB.out.trans (hbo.mono HB.out.size));have ko := Lib.hid (Lok.new Vt 23 #[.slice A n c]);clear hbo;generalize Vt.alloc (.cells #[.slice A n c] 23) = Vo at *;rw [zt] at ko zo;have zz : Vo.heap.size = w.heap.size + 2 := zo
 go_upto_region 2 with fail
 have hbl := below_new1 Vo (.cells #[.int .i64 1] 3);replace kt := Lib.hid (kt.out.keep hbl);replace ko := Lib.hid (ko.out.keep hbl)
 have zl : (Vo.alloc (.cells #[.int .i64 1] 3)).heap.size = Vo.heap.size + 1 := by simp
 replace HB := Lib.hid (HB.out.trans (hbl.mono HB.out.size));have kl := Lib.hid (Lok.new Vo 3 #[.int .i64 1]);clear hbl;generalize Vo.alloc (.cells #[.int .i64 1] 3) = Vl at *;rw [zo] at kl;clear zt zo zl zz
 have hgo : w.heap.size ≤ w.heap.size + 1 := by omega
 have hgl : w.heap.size ≤ w.heap.size + 1 + 1 := by omega
 have hne : w.heap.size + 1 ≠ w.heap.size + 1 + 1 := by omega
 have t0 := kt.out.cell (i := 0) rfl;have t1 := kt.out.cell (i := 1) rfl;have t2 := kt.out.cell (i := 2) rfl;have t3 := kt.out.cell (i := 3) rfl;have t4 := kt.out.cell (i := 4) rfl;have t5 := kt.out.cell (i := 5) rfl
 go_wp2_with fail
 clear t0 t1 t2 t3 t4 t5;generalize w.heap.size + 1 + 1 = gl at *;generalize w.heap.size + 1 = go at *
 (with_reducible refine (ED.out _).mono ?_)
 rintro e w1 ⟨B, rfl, hkB, hb1⟩
 replace ko := ko.out.keep hb1;replace kl := kl.out.keep hb1;replace HB := HB.out.trans (hb1.mono HB.out.size);clear kt hb1 ED
 go_wp2_with fail
 have hBl : B ≠ gl := fun e => by
  subst e;unfold Lok at hkB kl;rw [hkB] at kl
  simp at kl
 refine wp_range (gf := 135) (lb := #[.pointer (some ⟨B, 0, none⟩)]) rfl (enters_of Tryz.func135 (by kernel_rfl) rfl) (edges1_gives p1 p2 q1 q2 r1 r2 HS.out B)
  (fun k W => Below w.heap.size w W ∧ Lok W go 23 #[.slice A n c] ∧ Lok W gl 3 #[.int .i64 (rk p1 p2 q1 q2 r1 r2 F n k)] ∧ Lok W B 37 #[.int .i64 p1, .int .i64 p2, .int .i64 q1, .int .i64 q2, .int .i64 r1, .int .i64 r2])
  (fun W => rc p1 p2 q1 q2 r1 r2 F n = -1 ∧ Below w.heap.size w W ∧ Lok W gl 3 #[.int .i64 (-1)]) 0
  (fun k => (below_abided _ _ (Nat.le_refl _)).and ((lok_abided _ _ _).and ((lok_abided _ _ _).and (lok_abided _ _ _)))) (fun k W h => h.2.2.2)
  (fun k => (below_booked w HB.size).and ((lok_booked _ _ _ _).and ((lok_booked _ _ _ _).and (lok_booked _ _ _ _))))
  (fun W l o o' h hl ho h1 h2 => ⟨h.1, below_booked w HB.size W l o o' h.2.1 hl ho h1 h2, lok_booked _ _ _ _ W l o o' h.2.2 hl ho h1 h2⟩)
  (fun k v => edgeAt_booked p1 p2 q1 q2 r1 r2 _ k v) ⟨HB, ko, kl, hkB⟩
  (fun v => { tmps := #[.agg #[.int .i64 p1, .int .i64 p2, .int .i64 q1, .int .i64 q2, .int .i64 r1, .int .i64 r2], .slice A n c, .pointer (some ⟨w.heap.size, 0, none⟩), .pointer (some ⟨go, 0, none⟩), .int .i64 0, .pointer (some ⟨gl, 0, none⟩), v, .agg #[.int .i64 p1, .int .i64 p2, .int .i64 q1, .int .i64 q2, .int .i64 r1, .int .i64 r2], .func (.func 135) #[] #[.pointer (some ⟨B, 0, none⟩)], v, undef, undef, undef, undef, undef, undef, undef, undef], defers := [] }) ?assign ?body ?done ?stop
 case assign =>
  intro l v W K hK
  gi_wp2
  exact hK
 case body =>
  rintro l k v W hk ⟨hB, ho, hl, ht⟩ ⟨g4, g5, g7, rfl, k4, k5, k7⟩
  have h3 : s2 p1 p2 = true ∧ s2 q1 q2 = true ∧ s2 r1 r2 = true := by have := HS.out; simpa [Bool.and_eq_true, and_assoc] using this
  have hf := small_c3 h3.1 h3.2.1 h3.2.2 k;have hg := small_c3 h3.2.1 h3.2.2 h3.1 k
  have IM := Lib.hid (innermost_any (fun i => eS (c3 p1 q1 r1 k) (c3 p2 q2 r2 k) (c3 q1 r1 p1 k) (c3 q2 r2 p2 k) (c3 r1 p1 q1 k) (c3 r2 p2 q2 k) (F i 0) (F i 1))
   (.pointer (some ⟨g4, 0, none⟩)) (.pointer (some ⟨g5, 0, none⟩)) (.pointer (some ⟨g7, 0, none⟩)) A n c F W.drew ((R.out.keep hB).keep ((Below.refl _ W).drew)) hn (fun i => eS_bd _ _ _ _ _ _ _ _)
   (fun V hb i hi => told_any _ _ _ _ _ _ _ (by rw [hf, hg, HF.out i hi]; rfl) (ord_bd _ _) g4 g5 g7 V (k4.drew.keep hb) (k5.drew.keep hb) (k7.drew.keep hb)))
  have hm : min (rk p1 p2 q1 q2 r1 r2 F n k) (mx (fun i => eS (c3 p1 q1 r1 k) (c3 p2 q2 r2 k) (c3 q1 r1 p1 k) (c3 q2 r2 p2 k) (c3 r1 p1 q1 k) (c3 r2 p2 q2 k) (F i 0) (F i 1)) n) = rk p1 p2 q1 q2 r1 r2 F n (k + 1) := rfl;have hlow := rk_low p1 p2 q1 q2 r1 r2 F n (k + 1) (by omega);clear h3 hf hg k4 k5 k7;generalize mx (fun i => eS (c3 p1 q1 r1 k) (c3 p2 q2 r2 k) (c3 q1 r1 p1 k) (c3 q2 r2 p2 k) (c3 r1 p1 q1 k) (c3 r2 p2 q2 k) (F i 0) (F i 1)) n = m at *;generalize rk p1 p2 q1 q2 r1 r2 F n k = r at *;generalize hzz : rk p1 p2 q1 q2 r1 r2 F n (k + 1) = z at *;have HZ := Lib.hid hzz;clear hzz;have HL := Lib.hid hlow;have KO := Lib.hid ho;have KL := Lib.hid hl;have KT := Lib.hid ht;have HB' := Lib.hid hB;clear hlow ho hl ht hB;have x0 := KL.out.drew.cell (i := 0) rfl;have x1 := KL.out.drew.frozen 0;have x2 := KO.out.drew.cell (i := 0) rfl
  have hmx : Tryz.prog.follows .mixedOrders = true := by kernel_rfl
  by_cases hz : z = -1
  ·subst hz
   have HX := Lib.hid (HL.out rfl);clear HL KT
   gi_wp2
   gi_region_with_o (refine ⟨trivial, ?_⟩; gi_at_call 133; refine (CallsIn.inRound l (callsIn_wide.2 IM.out)).mono ?_; rintro e w5 ⟨rfl, hb⟩; have KL5 := Lib.hid (KL.out.drew.keep hb); have y0 := KL5.out.cell (i := 0) rfl; have y1 := KL5.out.frozen 0; have hb5 := Lib.hid hb; clear hb)
   all_goals gi_wp2
   all_goals
    have HD := (Below.refl W.heap.size W).drew.trans hb5.out
    exact ⟨rfl, (keeps_below HD).trans (KeepsOthers.setCell _ _ _), HX.out, (HB'.out.trans (HD.mono HB'.out.size)).setCell (p := ⟨gl, 0, none⟩) hgl _, KL5.out.set (i := 0) (v := .int .i64 (-1))⟩
  ·have hz1 : (z == -1) = false := by simpa using hz
   gi_wp2
   gi_region_with_o (refine ⟨trivial, ?_⟩; gi_at_call 133; refine (CallsIn.inRound l (callsIn_wide.2 IM.out)).mono ?_; rintro e w5 ⟨rfl, hb⟩; have KL5 := Lib.hid (KL.out.drew.keep hb); have y0 := KL5.out.cell (i := 0) rfl; have y1 := KL5.out.frozen 0; have hb5 := Lib.hid hb; clear hb)
   all_goals gi_wp2
   all_goals
    have HD := (Below.refl W.heap.size W).drew.trans hb5.out
    exact ⟨(keeps_below HD).trans (KeepsOthers.setCell _ _ _), (HB'.out.trans (HD.mono HB'.out.size)).setCell (p := ⟨gl, 0, none⟩) hgl _, (KO.out.keep HD).far hne, by rw [HZ.out]; exact KL5.out.set (i := 0) (v := .int .i64 z), (KT.out.keep HD).far hBl⟩
 case done =>
  rintro D W hD ⟨hB, -, hl, -⟩ hK
  have hm := rk_three p1 p2 q1 q2 r1 r2 F n;generalize rk p1 p2 q1 q2 r1 r2 F n 3 = r at *;have HM := Lib.hid hm;clear hm;have x0 := hl.cell (i := 0) rfl;have HH := Lib.hid hB;clear hB
  go_wp2
  refine ⟨by simp, .inl ⟨_, _, rfl, run_takeDeferred hK, ?_⟩⟩
  exact ⟨_, results_tmp rfl _ _ _, by rw [← HM.out]; rfl, HH.out.trans (below_put (Below.refl _ _) (Nat.le_trans HB.size hD))⟩
 case stop =>
  rintro D W hD ⟨hz, hB, hl⟩ hK
  have HM := Lib.hid hz;clear hz;have x0 := hl.cell (i := 0) rfl;have HH := Lib.hid hB;clear hB
  go_wp2
  refine ⟨by simp, .inl ⟨_, _, rfl, run_takeDeferred hK, ?_⟩⟩
  exact ⟨_, results_tmp rfl _ _ _, by rw [HM.out]; rfl, HH.out.trans (below_put (Below.refl _ _) (Nat.le_trans HB.size hD))⟩
end Go.Proofs.YtcnbbanpnoigdaaGreat
namespace Go.Proofs.YtcnbbanpnoigdaaGreat
open Go.RowKit

def r3 (a1 a2 b1 b2 c1 c2 d1 d2 e1 e2 f1 f2 : Int) : Int := rc a1 a2 b1 b2 c1 c2 (rowOf 2 [d1, d2, e1, e2, f1, f2]) 3
def r1 (a1 a2 b1 b2 c1 c2 x y : Int) : Int := rc a1 a2 b1 b2 c1 c2 (rowOf 2 [x, y]) 1
def r4 (a1 a2 b1 b2 c1 c2 x1 y1 x2 y2 x3 y3 x4 y4 : Int) : Int := rc a1 a2 b1 b2 c1 c2 (rowOf 2 [x1, y1, x2, y2, x3, y3, x4, y4]) 4
def mu (a1 a2 b1 b2 c1 c2 d1 d2 e1 e2 f1 f2 : Int) : Int := min (r3 a1 a2 b1 b2 c1 c2 d1 d2 e1 e2 f1 f2) (r3 d1 d2 e1 e2 f1 f2 a1 a2 b1 b2 c1 c2)
def mV (t : Bool) (v : Int) : Int := if t = true then v else -1
def mE (t : Bool) : Int := if t = true then 0 else 1
theorem rT_small {a1 a2 b1 b2 c1 c2 : Int} (h : rT a1 a2 b1 b2 c1 c2 = true) : (s2 a1 a2 && s2 b1 b2 && s2 c1 c2) = true := by
 unfold rT at h; rw [Bool.and_eq_true] at h; exact h.1
theorem small_of3 {a1 a2 b1 b2 c1 c2 : Int} (h : (s2 a1 a2 && s2 b1 b2 && s2 c1 c2) = true) : s2 a1 a2 = true ∧ s2 b1 b2 = true ∧ s2 c1 c2 = true := by
 simpa [Bool.and_eq_true, and_assoc] using h
theorem reach_3 (a1 a2 b1 b2 c1 c2 d1 d2 e1 e2 f1 f2 : Int) (ha : rT a1 a2 b1 b2 c1 c2 = true) (hd : rT d1 d2 e1 e2 f1 f2 = true) (g : Nat) (T : TypeId) (w : World) (h : Lok w g T #[.int .i64 d1, .int .i64 d2, .int .i64 e1, .int .i64 e2, .int .i64 f1, .int .i64 f2]) :
  Calls Tryz.prog 129 #[.agg #[.int .i64 a1, .int .i64 a2, .int .i64 b1, .int .i64 b2, .int .i64 c1, .int .i64 c2], .slice (some ⟨g, 0, none⟩) 3 3] w fun e w' => e = .returned (.int .i64 (r3 a1 a2 b1 b2 c1 c2 d1 d2 e1 e2 f1 f2)) ∧ Below w.heap.size w w' := by
 obtain ⟨h1, h2, h3⟩ := small_of3 (rT_small hd)
 refine reach_any a1 a2 b1 b2 c1 c2 (rT_small ha) _ 3 3 (rowOf 2 [d1, d2, e1, e2, f1, f2]) w (rowK_ints (n := 3) (k := 2) [d1, d2, e1, e2, f1, f2] h rfl) (by omega) (fun i hi => ?_)
 rcases (show i = 0 ∨ i = 1 ∨ i = 2 by omega) with rfl | rfl | rfl
 ·exact h1
 ·exact h2
 ·exact h3
set_option maxRecDepth 100000 in
set_option maxHeartbeats 4000000 in
theorem mutual_any (a1 a2 b1 b2 c1 c2 d1 d2 e1 e2 f1 f2 : Int) (t : Bool) (ht : (rT a1 a2 b1 b2 c1 c2 && rT d1 d2 e1 e2 f1 f2) = t) (w : World) :
  Calls Tryz.prog 120 #[.agg #[.int .i64 a1, .int .i64 a2, .int .i64 b1, .int .i64 b2, .int .i64 c1, .int .i64 c2], .agg #[.int .i64 d1, .int .i64 d2, .int .i64 e1, .int .i64 e2, .int .i64 f1, .int .i64 f2]] w fun e' w' => e' = .returned (.tuple #[.int .i64 (mV t (mu a1 a2 b1 b2 c1 c2 d1 d2 e1 e2 f1 f2)), .int .i64 (mE t)]) ∧ Below w.heap.size w w' := by
 have HB := Lib.hid (Below.refl w.heap.size w);have R1 := Lib.hid (fun W => right_any a1 a2 b1 b2 c1 c2 W);have R2 := Lib.hid (fun W => right_any d1 d2 e1 e2 f1 f2 W);subst ht
 cases ha : rT a1 a2 b1 b2 c1 c2 with
 | false =>
  rw [ha] at R1
  show Calls _ _ _ _ fun e' w' => e' = .returned (.tuple #[.int .i64 (-1), .int .i64 1]) ∧ _
  clear ha R2
  go_enter Tryz.func120, Tryz.ntmps120
  go_upto_region 1 with fail
  have hbx := below_new1 w (.cells #[.int .i64 a1, .int .i64 a2, .int .i64 b1, .int .i64 b2, .int .i64 c1, .int .i64 c2] 37)
  have zx : (w.alloc (.cells #[.int .i64 a1, .int .i64 a2, .int .i64 b1, .int .i64 b2, .int .i64 c1, .int .i64 c2] 37)).heap.size = w.heap.size + 1 := by simp
  have HB := Lib.hid hbx;have kx := Lib.hid (Lok.new w 37 #[.int .i64 a1, .int .i64 a2, .int .i64 b1, .int .i64 b2, .int .i64 c1, .int .i64 c2]);clear hbx;generalize w.alloc (.cells #[.int .i64 a1, .int .i64 a2, .int .i64 b1, .int .i64 b2, .int .i64 c1, .int .i64 c2] 37) = Vx at *;have hby := below_new1 Vx (.cells #[.int .i64 d1, .int .i64 d2, .int .i64 e1, .int .i64 e2, .int .i64 f1, .int .i64 f2] 37);replace kx := Lib.hid (kx.out.keep hby)
  have zy : (Vx.alloc (.cells #[.int .i64 d1, .int .i64 d2, .int .i64 e1, .int .i64 e2, .int .i64 f1, .int .i64 f2] 37)).heap.size = Vx.heap.size + 1 := by simp
  replace HB := Lib.hid (HB.out.trans (hby.mono HB.out.size));have ky := Lib.hid (Lok.new Vx 37 #[.int .i64 d1, .int .i64 d2, .int .i64 e1, .int .i64 e2, .int .i64 f1, .int .i64 f2]);clear hby;generalize Vx.alloc (.cells #[.int .i64 d1, .int .i64 d2, .int .i64 e1, .int .i64 e2, .int .i64 f1, .int .i64 f2] 37) = Vy at *;rw [zx] at ky;clear zx zy;have x0 := kx.out.cell (i := 0) rfl;have x1 := kx.out.cell (i := 1) rfl;have x2 := kx.out.cell (i := 2) rfl;have x3 := kx.out.cell (i := 3) rfl;have x4 := kx.out.cell (i := 4) rfl;have x5 := kx.out.cell (i := 5) rfl
  go_wp2_with fail
  clear x0 x1 x2 x3 x4 x5
  (((with_reducible refine (R1.out _).mono ?_); rintro e w1 ⟨rfl, hb1⟩); replace HB := Lib.hid (HB.out.trans (hb1.mono HB.out.size)); replace kx := Lib.hid (kx.out.keep hb1); replace ky := Lib.hid (ky.out.keep hb1); clear hb1)
  go_wp2
  go_ret2
  exact ⟨rfl, HB.out⟩
 | true =>
  rw [ha] at R1
  cases hd : rT d1 d2 e1 e2 f1 f2 with
  | false =>
   rw [hd] at R2
   show Calls _ _ _ _ fun e' w' => e' = .returned (.tuple #[.int .i64 (-1), .int .i64 1]) ∧ _
   clear ha hd
   go_enter Tryz.func120, Tryz.ntmps120
   go_upto_region 1 with fail
   have hbx := below_new1 w (.cells #[.int .i64 a1, .int .i64 a2, .int .i64 b1, .int .i64 b2, .int .i64 c1, .int .i64 c2] 37)
   have zx : (w.alloc (.cells #[.int .i64 a1, .int .i64 a2, .int .i64 b1, .int .i64 b2, .int .i64 c1, .int .i64 c2] 37)).heap.size = w.heap.size + 1 := by simp
   have HB := Lib.hid hbx;have kx := Lib.hid (Lok.new w 37 #[.int .i64 a1, .int .i64 a2, .int .i64 b1, .int .i64 b2, .int .i64 c1, .int .i64 c2]);clear hbx;generalize w.alloc (.cells #[.int .i64 a1, .int .i64 a2, .int .i64 b1, .int .i64 b2, .int .i64 c1, .int .i64 c2] 37) = Vx at *;have hby := below_new1 Vx (.cells #[.int .i64 d1, .int .i64 d2, .int .i64 e1, .int .i64 e2, .int .i64 f1, .int .i64 f2] 37);replace kx := Lib.hid (kx.out.keep hby)
   have zy : (Vx.alloc (.cells #[.int .i64 d1, .int .i64 d2, .int .i64 e1, .int .i64 e2, .int .i64 f1, .int .i64 f2] 37)).heap.size = Vx.heap.size + 1 := by simp
   replace HB := Lib.hid (HB.out.trans (hby.mono HB.out.size));have ky := Lib.hid (Lok.new Vx 37 #[.int .i64 d1, .int .i64 d2, .int .i64 e1, .int .i64 e2, .int .i64 f1, .int .i64 f2]);clear hby;generalize Vx.alloc (.cells #[.int .i64 d1, .int .i64 d2, .int .i64 e1, .int .i64 e2, .int .i64 f1, .int .i64 f2] 37) = Vy at *;rw [zx] at ky;clear zx zy;have x0 := kx.out.cell (i := 0) rfl;have x1 := kx.out.cell (i := 1) rfl;have x2 := kx.out.cell (i := 2) rfl;have x3 := kx.out.cell (i := 3) rfl;have x4 := kx.out.cell (i := 4) rfl;have x5 := kx.out.cell (i := 5) rfl
   go_wp2_with fail
   clear x0 x1 x2 x3 x4 x5
   (((with_reducible refine (R1.out _).mono ?_); rintro e w1 ⟨rfl, hb1⟩); replace HB := Lib.hid (HB.out.trans (hb1.mono HB.out.size)); replace kx := Lib.hid (kx.out.keep hb1); replace ky := Lib.hid (ky.out.keep hb1); clear hb1)
   have y0 := ky.out.cell (i := 0) rfl;have y1 := ky.out.cell (i := 1) rfl;have y2 := ky.out.cell (i := 2) rfl;have y3 := ky.out.cell (i := 3) rfl;have y4 := ky.out.cell (i := 4) rfl;have y5 := ky.out.cell (i := 5) rfl
   go_wp2_with fail
   clear y0 y1 y2 y3 y4 y5
   (((with_reducible refine (R2.out _).mono ?_); rintro e w2 ⟨rfl, hb2⟩); replace HB := Lib.hid (HB.out.trans (hb2.mono HB.out.size)); replace kx := Lib.hid (kx.out.keep hb2); replace ky := Lib.hid (ky.out.keep hb2); clear hb2)
   go_wp2
   go_ret2
   exact ⟨rfl, HB.out⟩
  | true =>
   rw [hd] at R2
   show Calls _ _ _ _ fun e' w' => e' = .returned (.tuple #[.int .i64 (mu a1 a2 b1 b2 c1 c2 d1 d2 e1 e2 f1 f2), .int .i64 0]) ∧ _
   have RE1 := Lib.hid (fun g T W (h : Lok W g T #[.int .i64 d1, .int .i64 d2, .int .i64 e1, .int .i64 e2, .int .i64 f1, .int .i64 f2]) => reach_3 a1 a2 b1 b2 c1 c2 d1 d2 e1 e2 f1 f2 ha hd g T W h);have RE2 := Lib.hid (fun g T W (h : Lok W g T #[.int .i64 a1, .int .i64 a2, .int .i64 b1, .int .i64 b2, .int .i64 c1, .int .i64 c2]) => reach_3 d1 d2 e1 e2 f1 f2 a1 a2 b1 b2 c1 c2 hd ha g T W h);unfold mu;generalize r3 a1 a2 b1 b2 c1 c2 d1 d2 e1 e2 f1 f2 = m1 at *;generalize r3 d1 d2 e1 e2 f1 f2 a1 a2 b1 b2 c1 c2 = m2 at *;clear ha hd
   go_enter Tryz.func120, Tryz.ntmps120
   go_upto_region 1 with fail
   have hbx := below_new1 w (.cells #[.int .i64 a1, .int .i64 a2, .int .i64 b1, .int .i64 b2, .int .i64 c1, .int .i64 c2] 37)
   have zx : (w.alloc (.cells #[.int .i64 a1, .int .i64 a2, .int .i64 b1, .int .i64 b2, .int .i64 c1, .int .i64 c2] 37)).heap.size = w.heap.size + 1 := by simp
   have HB := Lib.hid hbx;have kx := Lib.hid (Lok.new w 37 #[.int .i64 a1, .int .i64 a2, .int .i64 b1, .int .i64 b2, .int .i64 c1, .int .i64 c2]);clear hbx;generalize w.alloc (.cells #[.int .i64 a1, .int .i64 a2, .int .i64 b1, .int .i64 b2, .int .i64 c1, .int .i64 c2] 37) = Vx at *;have hby := below_new1 Vx (.cells #[.int .i64 d1, .int .i64 d2, .int .i64 e1, .int .i64 e2, .int .i64 f1, .int .i64 f2] 37);replace kx := Lib.hid (kx.out.keep hby)
   have zy : (Vx.alloc (.cells #[.int .i64 d1, .int .i64 d2, .int .i64 e1, .int .i64 e2, .int .i64 f1, .int .i64 f2] 37)).heap.size = Vx.heap.size + 1 := by simp
   replace HB := Lib.hid (HB.out.trans (hby.mono HB.out.size));have ky := Lib.hid (Lok.new Vx 37 #[.int .i64 d1, .int .i64 d2, .int .i64 e1, .int .i64 e2, .int .i64 f1, .int .i64 f2]);clear hby;generalize Vx.alloc (.cells #[.int .i64 d1, .int .i64 d2, .int .i64 e1, .int .i64 e2, .int .i64 f1, .int .i64 f2] 37) = Vy at *;rw [zx] at ky;clear zx zy;have x0 := kx.out.cell (i := 0) rfl;have x1 := kx.out.cell (i := 1) rfl;have x2 := kx.out.cell (i := 2) rfl;have x3 := kx.out.cell (i := 3) rfl;have x4 := kx.out.cell (i := 4) rfl;have x5 := kx.out.cell (i := 5) rfl
   go_wp2_with fail
   clear x0 x1 x2 x3 x4 x5
   (((with_reducible refine (R1.out _).mono ?_); rintro e w1 ⟨rfl, hb1⟩); replace HB := Lib.hid (HB.out.trans (hb1.mono HB.out.size)); replace kx := Lib.hid (kx.out.keep hb1); replace ky := Lib.hid (ky.out.keep hb1); clear hb1)
   have y0 := ky.out.cell (i := 0) rfl;have y1 := ky.out.cell (i := 1) rfl;have y2 := ky.out.cell (i := 2) rfl;have y3 := ky.out.cell (i := 3) rfl;have y4 := ky.out.cell (i := 4) rfl;have y5 := ky.out.cell (i := 5) rfl
   go_wp2_with fail
   clear y0 y1 y2 y3 y4 y5
   (((with_reducible refine (R2.out _).mono ?_); rintro e w2 ⟨rfl, hb2⟩); replace HB := Lib.hid (HB.out.trans (hb2.mono HB.out.size)); replace kx := Lib.hid (kx.out.keep hb2); replace ky := Lib.hid (ky.out.keep hb2); clear hb2)
   clear R1 R2
   go_upto_region 3 with fail
   have Q1 := Lib.hid (fun W (h : PastV w2 W) => RE1.out _ _ W (ky.out.keep h));have Q2 := Lib.hid (fun W (h : PastV w2 W) => RE2.out _ _ W (kx.out.keep h));clear RE1 RE2;have qx0 : ∀ D : Of (PastV w2), _ := fun D => (kx.out.keep (show Below w2.heap.size w2 D.world from D.holds)).cell (i := 0) rfl;have qx1 : ∀ D : Of (PastV w2), _ := fun D => (kx.out.keep (show Below w2.heap.size w2 D.world from D.holds)).cell (i := 1) rfl;have qx2 : ∀ D : Of (PastV w2), _ := fun D => (kx.out.keep (show Below w2.heap.size w2 D.world from D.holds)).cell (i := 2) rfl;have qx3 : ∀ D : Of (PastV w2), _ := fun D => (kx.out.keep (show Below w2.heap.size w2 D.world from D.holds)).cell (i := 3) rfl;have qx4 : ∀ D : Of (PastV w2), _ := fun D => (kx.out.keep (show Below w2.heap.size w2 D.world from D.holds)).cell (i := 4) rfl;have qx5 : ∀ D : Of (PastV w2), _ := fun D => (kx.out.keep (show Below w2.heap.size w2 D.world from D.holds)).cell (i := 5) rfl;have qy0 : ∀ D : Of (PastV w2), _ := fun D => (ky.out.keep (show Below w2.heap.size w2 D.world from D.holds)).cell (i := 0) rfl;have qy1 : ∀ D : Of (PastV w2), _ := fun D => (ky.out.keep (show Below w2.heap.size w2 D.world from D.holds)).cell (i := 1) rfl;have qy2 : ∀ D : Of (PastV w2), _ := fun D => (ky.out.keep (show Below w2.heap.size w2 D.world from D.holds)).cell (i := 2) rfl;have qy3 : ∀ D : Of (PastV w2), _ := fun D => (ky.out.keep (show Below w2.heap.size w2 D.world from D.holds)).cell (i := 3) rfl;have qy4 : ∀ D : Of (PastV w2), _ := fun D => (ky.out.keep (show Below w2.heap.size w2 D.world from D.holds)).cell (i := 4) rfl;have qy5 : ∀ D : Of (PastV w2), _ := fun D => (ky.out.keep (show Below w2.heap.size w2 D.world from D.holds)).cell (i := 5) rfl;have ST := Lib.hid (pastV_stays w2);have ne : Nonempty (Of (PastV w2)) := ⟨⟨w2, Below.refl _ _⟩⟩
   refine wp_region_class (S := PastV w2) (by kernel_rfl) (by kernel_rfl) (Below.refl _ _).drew ?_
   repeat (go_big_quiet_step (first | (go_at_call 129; first | (with_reducible exact class_call ST.out _ (Q1.out _ (Of.holds _))) | (with_reducible exact class_call ST.out _ (Q2.out _ (Of.holds _))))))
   refine wpQuiet_nil ?_
   rintro _ ⟨D, rfl⟩
   have hD : Below w2.heap.size w2 D.world := D.holds;replace HB := Lib.hid (HB.out.trans (hD.mono HB.out.size));replace kx := Lib.hid (kx.out.keep hD);replace ky := Lib.hid (ky.out.keep hD);generalize D.world = vd at *;clear qx0 qx1 qx2 qx3 qx4 qx5 qy0 qy1 qy2 qy3 qy4 qy5 ne ST hD
   go_wp2
   go_ret2
   exact ⟨rfl, HB.out⟩
set_option maxRecDepth 100000 in
set_option maxHeartbeats 4000000 in
theorem overlap_any (a1 a2 b1 b2 c1 c2 d1 d2 e1 e2 f1 f2 : Int) (t : Bool) (ht : (rT a1 a2 b1 b2 c1 c2 && rT d1 d2 e1 e2 f1 f2) = t) (w : World) :
  Calls Tryz.prog 101 #[.agg #[.int .i64 a1, .int .i64 a2, .int .i64 b1, .int .i64 b2, .int .i64 c1, .int .i64 c2], .agg #[.int .i64 d1, .int .i64 d2, .int .i64 e1, .int .i64 e2, .int .i64 f1, .int .i64 f2]] w fun e' w' => e' = .returned (.tuple #[.bool (mV t (mu a1 a2 b1 b2 c1 c2 d1 d2 e1 e2 f1 f2) == 1), .int .i64 (mE t)]) ∧ Below w.heap.size w w' := by
 have HB := Lib.hid (Below.refl w.heap.size w);have M := Lib.hid (fun W => mutual_any a1 a2 b1 b2 c1 c2 d1 d2 e1 e2 f1 f2 t ht W);generalize mV t (mu a1 a2 b1 b2 c1 c2 d1 d2 e1 e2 f1 f2) = m at *;generalize mE t = e0 at *;clear ht
 go_enter Tryz.func101, Tryz.ntmps101
 go_upto_region 1 with fail
 have hbx := below_new1 w (.cells #[.int .i64 a1, .int .i64 a2, .int .i64 b1, .int .i64 b2, .int .i64 c1, .int .i64 c2] 37)
 have zx : (w.alloc (.cells #[.int .i64 a1, .int .i64 a2, .int .i64 b1, .int .i64 b2, .int .i64 c1, .int .i64 c2] 37)).heap.size = w.heap.size + 1 := by simp
 have HB := Lib.hid hbx;have kx := Lib.hid (Lok.new w 37 #[.int .i64 a1, .int .i64 a2, .int .i64 b1, .int .i64 b2, .int .i64 c1, .int .i64 c2]);clear hbx;generalize w.alloc (.cells #[.int .i64 a1, .int .i64 a2, .int .i64 b1, .int .i64 b2, .int .i64 c1, .int .i64 c2] 37) = Vx at *;have hby := below_new1 Vx (.cells #[.int .i64 d1, .int .i64 d2, .int .i64 e1, .int .i64 e2, .int .i64 f1, .int .i64 f2] 37);replace kx := Lib.hid (kx.out.keep hby)
 have zy : (Vx.alloc (.cells #[.int .i64 d1, .int .i64 d2, .int .i64 e1, .int .i64 e2, .int .i64 f1, .int .i64 f2] 37)).heap.size = Vx.heap.size + 1 := by simp
 replace HB := Lib.hid (HB.out.trans (hby.mono HB.out.size));have ky := Lib.hid (Lok.new Vx 37 #[.int .i64 d1, .int .i64 d2, .int .i64 e1, .int .i64 e2, .int .i64 f1, .int .i64 f2]);clear hby;generalize Vx.alloc (.cells #[.int .i64 d1, .int .i64 d2, .int .i64 e1, .int .i64 e2, .int .i64 f1, .int .i64 f2] 37) = Vy at *;rw [zx] at ky;clear zx zy;have x0 := kx.out.cell (i := 0) rfl;have x1 := kx.out.cell (i := 1) rfl;have x2 := kx.out.cell (i := 2) rfl;have x3 := kx.out.cell (i := 3) rfl;have x4 := kx.out.cell (i := 4) rfl;have x5 := kx.out.cell (i := 5) rfl;have y0 := ky.out.cell (i := 0) rfl;have y1 := ky.out.cell (i := 1) rfl;have y2 := ky.out.cell (i := 2) rfl;have y3 := ky.out.cell (i := 3) rfl;have y4 := ky.out.cell (i := 4) rfl;have y5 := ky.out.cell (i := 5) rfl
 go_wp2_with fail
 clear x0 x1 x2 x3 x4 x5 y0 y1 y2 y3 y4 y5
 (((with_reducible refine (M.out _).mono ?_); rintro e w1 ⟨rfl, hb1⟩); replace HB := Lib.hid (HB.out.trans (hb1.mono HB.out.size)); clear hb1)
 go_wp2
 go_ret2
 exact ⟨rfl, HB.out⟩
def iV (s t : Bool) (v : Int) : Int := if s = true then (if t = true then v + 1 else 0) else 0
def iE (s t : Bool) : Int := if s = true then (if t = true then 0 else 1) else 5
theorem rc_bd (a1 a2 b1 b2 c1 c2 : Int) (F : Nat → Nat → Int) (n : Nat) : -1 ≤ rc a1 a2 b1 b2 c1 c2 F n ∧ rc a1 a2 b1 b2 c1 c2 F n ≤ 1 := by
 have := rk_bd a1 a2 b1 b2 c1 c2 F n 3
 rwa [rk_three] at this
end Go.Proofs.YtcnbbanpnoigdaaGreat
