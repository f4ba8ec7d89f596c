import Derived.Test.YtcnbbanpnoigdaaGreatHh
import Derived.BigQuiet
import Derived.Test.YtcnbbanpnoigdaaGreatHv
import Derived.Test.YtcnbbanpnoigdaaGreatHk
import Derived.OwnWalk
namespace Go.Proofs.YtcnbbanpnoigdaaGreat
open Go.RowKit

set_option maxRecDepth 100000 in
set_option maxHeartbeats 1000000 in
theorem rwithin15_any (n : Int) (w : World) :
  Calls Tryz.prog 45 #[.int .i64 n] w fun e' w' => e' = .returned (.bool (sB 4096 n)) ∧ Below w.heap.size w w' := by
 have HB := Lib.hid (Below.refl w.heap.size w)
 by_cases h0 : -4096 ≤ n
 ·by_cases h1 : n ≤ 4096
  ·rw [show sB 4096 n = true from sB_iff.2 ⟨h0, h1⟩]
   go_enter Tryz.func45, Tryz.ntmps45
   go_wp2
   go_ret
   exact ⟨rfl, HB.out⟩
  ·rw [show sB 4096 n = false from sB_not.2 fun h => h1 h.2]
   go_enter Tryz.func45, Tryz.ntmps45
   go_wp2
   go_ret
   exact ⟨rfl, HB.out⟩
 ·rw [show sB 4096 n = false from sB_not.2 fun h => h0 h.1]
  go_enter Tryz.func45, Tryz.ntmps45
  go_wp2
  go_ret
  exact ⟨rfl, HB.out⟩
set_option maxRecDepth 100000 in
set_option maxHeartbeats 1000000 in
theorem rplace15_any (pa1 pa2 pa3 pa4 : Option Addr) (n1 n2 n3 n4 c1 c2 c3 c4 : Nat) (i : Int) (w : World) :
  Calls Tryz.prog 24 #[.agg #[.slice pa1 n1 c1, .slice pa2 n2 c2, .slice pa3 n3 c3, .slice pa4 n4 c4], .int .i64 i] w fun e' w' => e' = .returned (.bool (plB i n4)) ∧ Below w.heap.size w w' := by
 have HB := Lib.hid (Below.refl w.heap.size w)
 by_cases h0 : 0 ≤ i
 ·by_cases h1 : i < (n4 : Int)
  ·rw [show plB i n4 = true from plB_iff.2 ⟨h0, h1⟩]
   go_enter Tryz.func24, Tryz.ntmps24
   go_upto_region 1 with fail
   have hbm := below_new1 w (.cells #[.slice pa1 n1 c1, .slice pa2 n2 c2, .slice pa3 n3 c3, .slice pa4 n4 c4] 26)
   have zm : (w.alloc (.cells #[.slice pa1 n1 c1, .slice pa2 n2 c2, .slice pa3 n3 c3, .slice pa4 n4 c4] 26)).heap.size = w.heap.size + 1 := by simp
   have HB := Lib.hid hbm;have km := Lib.hid (Lok.new w 26 #[.slice pa1 n1 c1, .slice pa2 n2 c2, .slice pa3 n3 c3, .slice pa4 n4 c4]);clear hbm;generalize w.alloc (.cells #[.slice pa1 n1 c1, .slice pa2 n2 c2, .slice pa3 n3 c3, .slice pa4 n4 c4] 26) = Vm at *;clear zm;have m3 := km.out.cell (i := 3) rfl
   go_wp2
   go_ret
   exact ⟨rfl, HB.out⟩
  ·rw [show plB i n4 = false from Bool.eq_false_iff.2 fun h => h1 (plB_iff.1 h).2]
   go_enter Tryz.func24, Tryz.ntmps24
   go_upto_region 1 with fail
   have hbm := below_new1 w (.cells #[.slice pa1 n1 c1, .slice pa2 n2 c2, .slice pa3 n3 c3, .slice pa4 n4 c4] 26)
   have zm : (w.alloc (.cells #[.slice pa1 n1 c1, .slice pa2 n2 c2, .slice pa3 n3 c3, .slice pa4 n4 c4] 26)).heap.size = w.heap.size + 1 := by simp
   have HB := Lib.hid hbm;have km := Lib.hid (Lok.new w 26 #[.slice pa1 n1 c1, .slice pa2 n2 c2, .slice pa3 n3 c3, .slice pa4 n4 c4]);clear hbm;generalize w.alloc (.cells #[.slice pa1 n1 c1, .slice pa2 n2 c2, .slice pa3 n3 c3, .slice pa4 n4 c4] 26) = Vm at *;clear zm;have m3 := km.out.cell (i := 3) rfl
   go_wp2
   go_ret
   exact ⟨rfl, HB.out⟩
 ·rw [show plB i n4 = false from Bool.eq_false_iff.2 fun h => h0 (plB_iff.1 h).1]
  go_enter Tryz.func24, Tryz.ntmps24
  go_upto_region 1 with fail
  have hbm := below_new1 w (.cells #[.slice pa1 n1 c1, .slice pa2 n2 c2, .slice pa3 n3 c3, .slice pa4 n4 c4] 26)
  have zm : (w.alloc (.cells #[.slice pa1 n1 c1, .slice pa2 n2 c2, .slice pa3 n3 c3, .slice pa4 n4 c4] 26)).heap.size = w.heap.size + 1 := by simp
  have HB := Lib.hid hbm;have km := Lib.hid (Lok.new w 26 #[.slice pa1 n1 c1, .slice pa2 n2 c2, .slice pa3 n3 c3, .slice pa4 n4 c4]);clear hbm;generalize w.alloc (.cells #[.slice pa1 n1 c1, .slice pa2 n2 c2, .slice pa3 n3 c3, .slice pa4 n4 c4] 26) = Vm at *;clear zm;have m3 := km.out.cell (i := 3) rfl
  go_wp2
  go_ret
  exact ⟨rfl, HB.out⟩
set_option maxRecDepth 100000 in
set_option maxHeartbeats 4000000 in
theorem rin_list (a : Option Addr) (n c : Nat) (L : List Int) (v : Int) (w : World) (hl : RowI w a n L) (hn : n ≤ 9223372036854775807) :
  Calls Tryz.prog 40 #[.slice a n c, .int .i64 v] w fun e w' => e = .returned (.bool (isIn L v)) ∧ Below w.heap.size w w' := by
 have HB := Lib.hid (Below.refl w.heap.size w);have RL := Lib.hid hl;have hln := Lib.hid hl.1;clear hl
 go_enter Tryz.func40, Tryz.ntmps40
 go_wp2_with fail
 go_loopw [5] (fun x wr => ∃ k : Nat, x = .int .i64 k ∧ k ≤ n ∧ (∀ j, j < k → ¬ L.getD j 0 = v) ∧ Below w.heap.size w wr) (fun x _ => n - (intOf x).toNat)
 case atStart => exact ⟨0, rfl, Nat.zero_le _, fun j h => absurd h (by omega), HB.out⟩
 case round =>
  obtain ⟨k, rfl, hk', hR, hB⟩ := hrel;replace HB := Lib.hid hB;have HR := Lib.hid hR;clear hB hR
  by_cases hlt : k < n
  ·obtain ⟨p, o, rfl, hb, hc⟩ := (RL.out.keep HB.out).at hlt
   have c0 := hc k hlt
   have NO : Hid (¬ L.getD k 0 = v → ∀ j, j < k + 1 → ¬ L.getD j 0 = v) := Lib.hid (fun e j hj => by
    by_cases s : j = k
    ·rw [s]; exact e
    ·exact HR.out j (by omega))
   have YES : Hid (L.getD k 0 = v → isIn L v = true) := Lib.hid (fun e => decide_eq_true (by
    rw [← e, List.getD_eq_getElem?_getD, List.getElem?_eq_getElem (show k < L.length from by have := hln.out; omega)]
    exact List.getElem_mem _))
   clear hc;generalize L.getD k 0 = x at *
   have i0 : (0 : Int) ≤ (k : Int) := by omega
   have i1 : (k : Int) < (n : Int) := by omega
   have i2 : ((k : Int)).toNat = k := by omega
   by_cases hxy : x = v
   ·have E := Lib.hid (YES.out hxy)
    clear YES NO;subst hxy
    go_wp2
    go_ret
    exact ⟨by rw [E.out]; rfl, HB.out⟩
   ·have E := Lib.hid (NO.out hxy)
    have h2 : (x == v) = false := by rw [beq_eq_false_iff_ne]; exact hxy
    have h3 : (x != v) = true := by rw [bne, h2]; rfl
    clear YES NO
    go_wp2
    go_roundw
    case rel => exact ⟨k + 1, by go_num, hlt, E.out, HB.out⟩
    case measure => simp [intOf]; omega
  ·obtain rfl : k = n := by omega
   have E : Hid (isIn L v = false) := Lib.hid (decide_eq_false (fun h => by
    obtain ⟨j, hj, e⟩ := List.getElem_of_mem h
    refine HR.out j (by have := hln.out; omega) ?_
    rw [List.getD_eq_getElem?_getD, List.getElem?_eq_getElem hj]
    exact e))
   go_wp2
   go_ret
   exact ⟨by rw [E.out]; rfl, HB.out⟩
end Go.Proofs.YtcnbbanpnoigdaaGreat
namespace Go.Proofs.YtcnbbanpnoigdaaGreat
open Go.RowKit

set_option maxRecDepth 100000 in
set_option maxHeartbeats 800000 in
theorem rpoints_any (pa1 pa2 pa3 pa4 : Option Addr) (n1 n2 n3 n4 c1 c2 c3 c4 : Nat) (FV FT FN FC : Nat → Nat → Int) (i : Nat) (w : World) (hm : MsW w pa1 pa2 pa3 pa4 n1 n2 n3 n4 FV FT FN FC) (hi : i < n4) (hF : ∀ j, j = 0 ∨ j = 3 ∨ j = 6 → 0 ≤ FC i j ∧ FC i j < (n1 : Int)) :
  Calls Tryz.prog 25 #[.agg #[.slice pa1 n1 c1, .slice pa2 n2 c2, .slice pa3 n3 c3, .slice pa4 n4 c4], .int .i64 (i : Int)] w fun e w' => e = .returned (.agg #[.int .i64 (pp FV FC i 0 0), .int .i64 (pp FV FC i 0 1), .int .i64 (pp FV FC i 0 2), .int .i64 (pp FV FC i 1 0), .int .i64 (pp FV FC i 1 1), .int .i64 (pp FV FC i 1 2), .int .i64 (pp FV FC i 2 0), .int .i64 (pp FV FC i 2 1), .int .i64 (pp FV FC i 2 2)]) ∧ Below w.heap.size w w' := by
 have HB := Lib.hid (Below.refl w.heap.size w);have a0 := hF 0 (.inl rfl);have a3 := hF 3 (.inr (.inl rfl));have a6 := hF 6 (.inr (.inr rfl));unfold pp;obtain ⟨b, o, rfl, hb, hc⟩ := hm.1.2.2.2.at hi;obtain ⟨b2, o2, rfl, hb2, hv⟩ := hm.1.1.at (i := (FC i 0).toNat) (by omega);have d0 := hc i hi 0 (by omega);have d3 := hc i hi 3 (by omega);have d6 := hc i hi 6 (by omega);have q1 := hc i hi 1 (by omega);have q2 := hc i hi 2 (by omega);have q4 := hc i hi 4 (by omega);have q5 := hc i hi 5 (by omega);have q7 := hc i hi 7 (by omega);have q8 := hc i hi 8 (by omega);rw [Nat.add_zero] at d0;rw [← Nat.add_assoc] at d3 d6 q1 q2 q4 q5 q7 q8;clear hc hm hF;obtain ⟨x, hx⟩ := Int.eq_ofNat_of_zero_le a0.1;obtain ⟨y, hy⟩ := Int.eq_ofNat_of_zero_le a3.1;obtain ⟨z, hz⟩ := Int.eq_ofNat_of_zero_le a6.1;rw [hx] at d0 a0;rw [hy] at d3 a3;rw [hz] at d6 a6;rw [show FC i (0 * 3) = FC i 0 from rfl, show FC i (1 * 3) = FC i 3 from rfl, show FC i (2 * 3) = FC i 6 from rfl, hx, hy, hz];clear hx hy hz;rw [show ((x : Int)).toNat = x from by omega, show ((y : Int)).toNat = y from by omega, show ((z : Int)).toNat = z from by omega];have V := fun (u : Nat) (h : (u : Int) < (n1 : Int)) (j : Nat) (hj : j < 3) => hv u (by omega) j hj;have v0 := V x a0.2 0 (by omega);have v1 := V x a0.2 1 (by omega);have v2 := V x a0.2 2 (by omega);have w0 := V y a3.2 0 (by omega);have w1 := V y a3.2 1 (by omega);have w2 := V y a3.2 2 (by omega);have y0 := V z a6.2 0 (by omega);have y1 := V z a6.2 1 (by omega);have y2 := V z a6.2 2 (by omega);rw [Nat.add_zero] at v0 w0 y0;rw [← Nat.add_assoc] at v1 v2 w1 w2 y1 y2;clear V hv;have e0 := a0.2;have e3 := a3.2;have e6 := a6.2;clear a0 a3 a6
 have f0 : (0 : Int) ≤ (x : Int) := by omega
 have f3 : (0 : Int) ≤ (y : Int) := by omega
 have f6 : (0 : Int) ≤ (z : Int) := by omega
 have g0 : ((x : Int)).toNat = x := by omega
 have g3 : ((y : Int)).toNat = y := by omega
 have g6 : ((z : Int)).toNat = z := by omega
 have i0 : (0 : Int) ≤ (i : Int) := by omega
 have i1 : (i : Int) < (n4 : Int) := by omega
 have i2 : ((i : Int)).toNat = i := by omega
 generalize FV x 0 = p0 at *;generalize FV x 1 = p1 at *;generalize FV x 2 = p2 at *;generalize FV y 0 = p3 at *;generalize FV y 1 = p4 at *;generalize FV y 2 = p5 at *;generalize FV z 0 = p6 at *;generalize FV z 1 = p7 at *;generalize FV z 2 = p8 at *;generalize FC i 1 = r1 at *;generalize FC i 2 = r2 at *;generalize FC i 4 = r4 at *;generalize FC i 5 = r5 at *;generalize FC i 7 = r7 at *;generalize FC i 8 = r8 at *
 go_enter Tryz.func25, Tryz.ntmps25
 go_upto_region 1 with fail
 have hbm := below_new1 w (.cells #[.slice (some ⟨b2, o2, none⟩) n1 c1, .slice pa2 n2 c2, .slice pa3 n3 c3, .slice (some ⟨b, o, none⟩) n4 c4] 26)
 have zm : (w.alloc (.cells #[.slice (some ⟨b2, o2, none⟩) n1 c1, .slice pa2 n2 c2, .slice pa3 n3 c3, .slice (some ⟨b, o, none⟩) n4 c4] 26)).heap.size = w.heap.size + 1 := by simp
 have HB := Lib.hid hbm;have km := Lib.hid (Lok.new w 26 #[.slice (some ⟨b2, o2, none⟩) n1 c1, .slice pa2 n2 c2, .slice pa3 n3 c3, .slice (some ⟨b, o, none⟩) n4 c4]);clear hbm;generalize w.alloc (.cells #[.slice (some ⟨b2, o2, none⟩) n1 c1, .slice pa2 n2 c2, .slice pa3 n3 c3, .slice (some ⟨b, o, none⟩) n4 c4] 26) = Vm at *;have hbr := below_new1 Vm (.cells #[.int .i64 0, .int .i64 0, .int .i64 0, .int .i64 0, .int .i64 0, .int .i64 0, .int .i64 0, .int .i64 0, .int .i64 0] 58);replace km := Lib.hid (km.out.keep hbr)
 have zr : (Vm.alloc (.cells #[.int .i64 0, .int .i64 0, .int .i64 0, .int .i64 0, .int .i64 0, .int .i64 0, .int .i64 0, .int .i64 0, .int .i64 0] 58)).heap.size = Vm.heap.size + 1 := by simp
 replace HB := Lib.hid (HB.out.trans (hbr.mono HB.out.size));have kr := Lib.hid (Lok.new Vm 58 #[.int .i64 0, .int .i64 0, .int .i64 0, .int .i64 0, .int .i64 0, .int .i64 0, .int .i64 0, .int .i64 0, .int .i64 0]);clear hbr;generalize Vm.alloc (.cells #[.int .i64 0, .int .i64 0, .int .i64 0, .int .i64 0, .int .i64 0, .int .i64 0, .int .i64 0, .int .i64 0, .int .i64 0] 58) = Vr at *;rw [zm] at kr zr;clear zm;clear zr;have hba : Hid (b < w.heap.size) := Lib.hid hb;have hbb : Hid (b2 < w.heap.size + 1) := Lib.hid (Nat.lt_succ_of_lt hb2);have BA := Lib.hid (fun o v (h : w.cell? ⟨b, o, none⟩ = some v) => keepc HB.out h);have HG : Hid (w.heap.size < w.heap.size + 1) := Lib.hid (Nat.lt_succ_self _);have BV := Lib.hid (fun o v (h : w.cell? ⟨b2, o, none⟩ = some v) => keepc HB.out h);replace d0 := BA.out _ _ d0;replace d3 := BA.out _ _ d3;replace d6 := BA.out _ _ d6;replace q1 := BA.out _ _ q1;replace q2 := BA.out _ _ q2;replace q4 := BA.out _ _ q4;replace q5 := BA.out _ _ q5;replace q7 := BA.out _ _ q7;replace q8 := BA.out _ _ q8;replace v0 := BV.out _ _ v0;replace v1 := BV.out _ _ v1;replace v2 := BV.out _ _ v2;replace w0 := BV.out _ _ w0;replace w1 := BV.out _ _ w1;replace w2 := BV.out _ _ w2;replace y0 := BV.out _ _ y0;replace y1 := BV.out _ _ y1;replace y2 := BV.out _ _ y2;have m0 := km.out.cell (i := 0) rfl;have m3 := km.out.cell (i := 3) rfl
 go_upto_region 2 with fail
 have hbt := below_new1 Vr (.cells #[.int .i64 x, .int .i64 r1, .int .i64 r2, .int .i64 y, .int .i64 r4, .int .i64 r5, .int .i64 z, .int .i64 r7, .int .i64 r8] 88);have KT := Lib.hid (Lok.new Vr 88 #[.int .i64 x, .int .i64 r1, .int .i64 r2, .int .i64 y, .int .i64 r4, .int .i64 r5, .int .i64 z, .int .i64 r7, .int .i64 r8]);have hne : w.heap.size + 1 < Vr.heap.size := kr.out.lt
 have hgt : Vr.heap.size < (Vr.alloc (.cells #[.int .i64 x, .int .i64 r1, .int .i64 r2, .int .i64 y, .int .i64 r4, .int .i64 r5, .int .i64 z, .int .i64 r7, .int .i64 r8] 88)).heap.size := by simp
 replace kr := Lib.hid (kr.out.keep hbt);replace HB := Lib.hid (HB.out.trans (hbt.mono HB.out.size));replace v0 := keepc hbt v0;replace v1 := keepc hbt v1;replace v2 := keepc hbt v2;replace w0 := keepc hbt w0;replace w1 := keepc hbt w1;replace w2 := keepc hbt w2;replace y0 := keepc hbt y0;replace y1 := keepc hbt y1;replace y2 := keepc hbt y2;replace m0 := keepc hbt m0;clear d0 d3 d6 q1 q2 q4 q5 q7 q8 m3 hbt BA BV km;generalize Vr.alloc (.cells #[.int .i64 x, .int .i64 r1, .int .i64 r2, .int .i64 y, .int .i64 r4, .int .i64 r5, .int .i64 z, .int .i64 r7, .int .i64 r8] 88) = Vt at *;generalize Vr.heap.size = gt at *
 refine wp_region_rel (by kernel_rfl) [11, 12, 13, 14, 15, 16, 17, 18, 19, 20, 21, 22, 23, 24, 25, 26, 27, 28, 29, 30, 31, 32] ?Fr1 ?hFr1
  (fun L u W => Below (w.heap.size + 1) Vt W ∧ (L 0 = true → u 11 = .pointer (some ⟨w.heap.size, 0, none⟩)) ∧ (L 1 = true → u 12 = .slice (some ⟨b2, o2, none⟩) n1 c1) ∧ (L 2 = true → u 13 = .pointer (some ⟨gt, 0, none⟩)) ∧ (L 3 = true → u 14 = .pointer (some ⟨gt, 0, none⟩)) ∧ (L 4 = true → u 15 = .int .i64 x) ∧ (L 5 = true → u 16 = .pointer (some ⟨b2, o2 + x * 3, none⟩)) ∧ (L 6 = true → u 17 = .agg #[.int .i64 p0, .int .i64 p1, .int .i64 p2]) ∧ (L 7 = true → u 18 = .pointer (some ⟨w.heap.size, 0, none⟩)) ∧ (L 8 = true → u 19 = .slice (some ⟨b2, o2, none⟩) n1 c1) ∧ (L 9 = true → u 20 = .pointer (some ⟨gt, 3, none⟩)) ∧ (L 10 = true → u 21 = .pointer (some ⟨gt, 3, none⟩)) ∧ (L 11 = true → u 22 = .int .i64 y) ∧ (L 12 = true → u 23 = .pointer (some ⟨b2, o2 + y * 3, none⟩)) ∧ (L 13 = true → u 24 = .agg #[.int .i64 p3, .int .i64 p4, .int .i64 p5]) ∧ (L 14 = true → u 25 = .pointer (some ⟨w.heap.size, 0, none⟩)) ∧ (L 15 = true → u 26 = .slice (some ⟨b2, o2, none⟩) n1 c1) ∧ (L 16 = true → u 27 = .pointer (some ⟨gt, 6, none⟩)) ∧ (L 17 = true → u 28 = .pointer (some ⟨gt, 6, none⟩)) ∧ (L 18 = true → u 29 = .int .i64 z) ∧ (L 19 = true → u 30 = .pointer (some ⟨b2, o2 + z * 3, none⟩)) ∧ (L 20 = true → u 31 = .agg #[.int .i64 p6, .int .i64 p7, .int .i64 p8]) ∧ (L 21 = true → u 32 = .agg #[.int .i64 p0, .int .i64 p1, .int .i64 p2, .int .i64 p3, .int .i64 p4, .int .i64 p5, .int .i64 p6, .int .i64 p7, .int .i64 p8]) ∧ (L 22 = false → Lok W ((w.heap.size + 1)) 58 #[.int .i64 0, .int .i64 0, .int .i64 0, .int .i64 0, .int .i64 0, .int .i64 0, .int .i64 0, .int .i64 0, .int .i64 0]) ∧ (L 22 = true → Lok W ((w.heap.size + 1)) 58 #[.int .i64 p0, .int .i64 p1, .int .i64 p2, .int .i64 p3, .int .i64 p4, .int .i64 p5, .int .i64 p6, .int .i64 p7, .int .i64 p8]) ∧ Lok W (gt) 88 #[.int .i64 x, .int .i64 r1, .int .i64 r2, .int .i64 y, .int .i64 r4, .int .i64 r5, .int .i64 z, .int .i64 r7, .int .i64 r8]) (by kernel_rfl) (by kernel_rfl) 23 rfl ?h0r1 ?stepr1 ?finr1
 case hFr1 => intro u; simp only [putAll, Act.put, List.setIfInBounds_toArray, List.set]; exact rfl
 case h0r1 => intro L u hL; exact ⟨(Below.refl _ _).drew, (fun h => by simp [hL] at h), (fun h => by simp [hL] at h), (fun h => by simp [hL] at h), (fun h => by simp [hL] at h), (fun h => by simp [hL] at h), (fun h => by simp [hL] at h), (fun h => by simp [hL] at h), (fun h => by simp [hL] at h), (fun h => by simp [hL] at h), (fun h => by simp [hL] at h), (fun h => by simp [hL] at h), (fun h => by simp [hL] at h), (fun h => by simp [hL] at h), (fun h => by simp [hL] at h), (fun h => by simp [hL] at h), (fun h => by simp [hL] at h), (fun h => by simp [hL] at h), (fun h => by simp [hL] at h), (fun h => by simp [hL] at h), (fun h => by simp [hL] at h), (fun h => by simp [hL] at h), (fun h => by simp [hL] at h), (fun _ => by assumption), (fun h => by simp [hL] at h), (by first | assumption | (apply Lok.drew; assumption))⟩
 case stepr1 =>
  refine ops_all (ops_cons ?s0r1 (ops_cons ?s1r1 (ops_cons ?s2r1 (ops_cons ?s3r1 (ops_cons ?s4r1 (ops_cons ?s5r1 (ops_cons ?s6r1 (ops_cons ?s7r1 (ops_cons ?s8r1 (ops_cons ?s9r1 (ops_cons ?s10r1 (ops_cons ?s11r1 (ops_cons ?s12r1 (ops_cons ?s13r1 (ops_cons ?s14r1 (ops_cons ?s15r1 (ops_cons ?s16r1 (ops_cons ?s17r1 (ops_cons ?s18r1 (ops_cons ?s19r1 (ops_cons ?s20r1 (ops_cons ?s21r1 (ops_cons ?s22r1 (ops_nil))))))))))))))))))))))))
  case s0r1 =>
   rintro L u W ⟨hB, c0, c1, c2, c3, c4, c5, c6, c7, c8, c9, c10, c11, c12, c13, c14, c15, c16, c17, c18, c19, c20, c21, o22, wn22, lk1⟩ hf hd K hK
   dsimp only at hK
   clear hd
   go_simp
   refine hK _ _ ?_ (fun h => by cases h)
   intro s hs
   cases hs
   exact ⟨hB, (fun _ => rfl), c1, c2, c3, c4, c5, c6, c7, c8, c9, c10, c11, c12, c13, c14, c15, c16, c17, c18, c19, c20, c21, o22, wn22, lk1⟩
  case s1r1 =>
   rintro L u W ⟨hB, c0, c1, c2, c3, c4, c5, c6, c7, c8, c9, c10, c11, c12, c13, c14, c15, c16, c17, c18, c19, c20, c21, o22, wn22, lk1⟩ hf hd K hK
   dsimp only at hK
   have hd0 : L 0 = true := (by first | exact hd ⟨0, .data⟩ (by simp) rfl | exact hd ⟨0, .guard⟩ (by simp) rfl | exact hd ⟨0, .phase⟩ (by simp) rfl | exact hd ⟨0, .chain⟩ (by simp) rfl);have e0 := c0 hd0;rw [e0] at hK;have t0 := (hB.cell (p := ⟨w.heap.size, 0, none⟩) HG.out).trans m0;clear hd0;clear hd
   go_simp
   refine hK _ _ ?_ (fun h => by cases h)
   intro s hs
   cases hs
   exact ⟨hB, c0, (fun _ => rfl), c2, c3, c4, c5, c6, c7, c8, c9, c10, c11, c12, c13, c14, c15, c16, c17, c18, c19, c20, c21, o22, wn22, lk1⟩
  case s2r1 =>
   rintro L u W ⟨hB, c0, c1, c2, c3, c4, c5, c6, c7, c8, c9, c10, c11, c12, c13, c14, c15, c16, c17, c18, c19, c20, c21, o22, wn22, lk1⟩ hf hd K hK
   dsimp only at hK
   clear hd
   go_simp
   refine hK _ _ ?_ (fun h => by cases h)
   intro s hs
   cases hs
   exact ⟨hB, c0, c1, (fun _ => rfl), c3, c4, c5, c6, c7, c8, c9, c10, c11, c12, c13, c14, c15, c16, c17, c18, c19, c20, c21, o22, wn22, lk1⟩
  case s3r1 =>
   rintro L u W ⟨hB, c0, c1, c2, c3, c4, c5, c6, c7, c8, c9, c10, c11, c12, c13, c14, c15, c16, c17, c18, c19, c20, c21, o22, wn22, lk1⟩ hf hd K hK
   dsimp only at hK
   have hd2 : L 2 = true := (by first | exact hd ⟨2, .data⟩ (by simp) rfl | exact hd ⟨2, .guard⟩ (by simp) rfl | exact hd ⟨2, .phase⟩ (by simp) rfl | exact hd ⟨2, .chain⟩ (by simp) rfl);have e2 := c2 hd2;rw [e2] at hK;clear hd2;clear hd
   go_simp
   refine hK _ _ ?_ (fun h => by cases h)
   intro s hs
   cases hs
   exact ⟨hB, c0, c1, c2, (fun _ => rfl), c4, c5, c6, c7, c8, c9, c10, c11, c12, c13, c14, c15, c16, c17, c18, c19, c20, c21, o22, wn22, lk1⟩
  case s4r1 =>
   rintro L u W ⟨hB, c0, c1, c2, c3, c4, c5, c6, c7, c8, c9, c10, c11, c12, c13, c14, c15, c16, c17, c18, c19, c20, c21, o22, wn22, lk1⟩ hf hd K hK
   dsimp only at hK
   have hd3 : L 3 = true := (by first | exact hd ⟨3, .data⟩ (by simp) rfl | exact hd ⟨3, .guard⟩ (by simp) rfl | exact hd ⟨3, .phase⟩ (by simp) rfl | exact hd ⟨3, .chain⟩ (by simp) rfl);have e3 := c3 hd3;rw [e3] at hK;have t0 := lk1.cell (i := 0) rfl;clear hd3;clear hd
   go_simp
   refine hK _ _ ?_ (fun h => by cases h)
   intro s hs
   cases hs
   exact ⟨hB, c0, c1, c2, c3, (fun _ => rfl), c5, c6, c7, c8, c9, c10, c11, c12, c13, c14, c15, c16, c17, c18, c19, c20, c21, o22, wn22, lk1⟩
  case s5r1 =>
   rintro L u W ⟨hB, c0, c1, c2, c3, c4, c5, c6, c7, c8, c9, c10, c11, c12, c13, c14, c15, c16, c17, c18, c19, c20, c21, o22, wn22, lk1⟩ hf hd K hK
   dsimp only at hK
   have hd1 : L 1 = true := (by first | exact hd ⟨1, .data⟩ (by simp) rfl | exact hd ⟨1, .guard⟩ (by simp) rfl | exact hd ⟨1, .phase⟩ (by simp) rfl | exact hd ⟨1, .chain⟩ (by simp) rfl);have hd4 : L 4 = true := (by first | exact hd ⟨4, .data⟩ (by simp) rfl | exact hd ⟨4, .guard⟩ (by simp) rfl | exact hd ⟨4, .phase⟩ (by simp) rfl | exact hd ⟨4, .chain⟩ (by simp) rfl);have e1 := c1 hd1;rw [e1] at hK;have e4 := c4 hd4;rw [e4] at hK;clear hd1;clear hd4;clear hd
   go_simp
   refine hK _ _ ?_ (fun h => by cases h)
   intro s hs
   cases hs
   exact ⟨hB, c0, c1, c2, c3, c4, (fun _ => rfl), c6, c7, c8, c9, c10, c11, c12, c13, c14, c15, c16, c17, c18, c19, c20, c21, o22, wn22, lk1⟩
  case s6r1 =>
   rintro L u W ⟨hB, c0, c1, c2, c3, c4, c5, c6, c7, c8, c9, c10, c11, c12, c13, c14, c15, c16, c17, c18, c19, c20, c21, o22, wn22, lk1⟩ hf hd K hK
   dsimp only at hK
   have hd5 : L 5 = true := (by first | exact hd ⟨5, .data⟩ (by simp) rfl | exact hd ⟨5, .guard⟩ (by simp) rfl | exact hd ⟨5, .phase⟩ (by simp) rfl | exact hd ⟨5, .chain⟩ (by simp) rfl);have e5 := c5 hd5;rw [e5] at hK;have t0 := (hB.cell (p := ⟨b2, o2 + x * 3, none⟩) hbb.out).trans v0;have t1 := (hB.cell (p := ⟨b2, o2 + x * 3 + 1, none⟩) hbb.out).trans v1;have t2 := (hB.cell (p := ⟨b2, o2 + x * 3 + 2, none⟩) hbb.out).trans v2;clear hd5;clear hd
   go_simp
   refine hK _ _ ?_ (fun h => by cases h)
   intro s hs
   cases hs
   exact ⟨hB, c0, c1, c2, c3, c4, c5, (fun _ => rfl), c7, c8, c9, c10, c11, c12, c13, c14, c15, c16, c17, c18, c19, c20, c21, o22, wn22, lk1⟩
  case s7r1 =>
   rintro L u W ⟨hB, c0, c1, c2, c3, c4, c5, c6, c7, c8, c9, c10, c11, c12, c13, c14, c15, c16, c17, c18, c19, c20, c21, o22, wn22, lk1⟩ hf hd K hK
   dsimp only at hK
   clear hd
   go_simp
   refine hK _ _ ?_ (fun h => by cases h)
   intro s hs
   cases hs
   exact ⟨hB, c0, c1, c2, c3, c4, c5, c6, (fun _ => rfl), c8, c9, c10, c11, c12, c13, c14, c15, c16, c17, c18, c19, c20, c21, o22, wn22, lk1⟩
  case s8r1 =>
   rintro L u W ⟨hB, c0, c1, c2, c3, c4, c5, c6, c7, c8, c9, c10, c11, c12, c13, c14, c15, c16, c17, c18, c19, c20, c21, o22, wn22, lk1⟩ hf hd K hK
   dsimp only at hK
   have hd7 : L 7 = true := (by first | exact hd ⟨7, .data⟩ (by simp) rfl | exact hd ⟨7, .guard⟩ (by simp) rfl | exact hd ⟨7, .phase⟩ (by simp) rfl | exact hd ⟨7, .chain⟩ (by simp) rfl);have e7 := c7 hd7;rw [e7] at hK;have t0 := (hB.cell (p := ⟨w.heap.size, 0, none⟩) HG.out).trans m0;clear hd7;clear hd
   go_simp
   refine hK _ _ ?_ (fun h => by cases h)
   intro s hs
   cases hs
   exact ⟨hB, c0, c1, c2, c3, c4, c5, c6, c7, (fun _ => rfl), c9, c10, c11, c12, c13, c14, c15, c16, c17, c18, c19, c20, c21, o22, wn22, lk1⟩
  case s9r1 =>
   rintro L u W ⟨hB, c0, c1, c2, c3, c4, c5, c6, c7, c8, c9, c10, c11, c12, c13, c14, c15, c16, c17, c18, c19, c20, c21, o22, wn22, lk1⟩ hf hd K hK
   dsimp only at hK
   clear hd
   go_simp
   refine hK _ _ ?_ (fun h => by cases h)
   intro s hs
   cases hs
   exact ⟨hB, c0, c1, c2, c3, c4, c5, c6, c7, c8, (fun _ => rfl), c10, c11, c12, c13, c14, c15, c16, c17, c18, c19, c20, c21, o22, wn22, lk1⟩
  case s10r1 =>
   rintro L u W ⟨hB, c0, c1, c2, c3, c4, c5, c6, c7, c8, c9, c10, c11, c12, c13, c14, c15, c16, c17, c18, c19, c20, c21, o22, wn22, lk1⟩ hf hd K hK
   dsimp only at hK
   have hd9 : L 9 = true := (by first | exact hd ⟨9, .data⟩ (by simp) rfl | exact hd ⟨9, .guard⟩ (by simp) rfl | exact hd ⟨9, .phase⟩ (by simp) rfl | exact hd ⟨9, .chain⟩ (by simp) rfl);have e9 := c9 hd9;rw [e9] at hK;clear hd9;clear hd
   go_simp
   refine hK _ _ ?_ (fun h => by cases h)
   intro s hs
   cases hs
   exact ⟨hB, c0, c1, c2, c3, c4, c5, c6, c7, c8, c9, (fun _ => rfl), c11, c12, c13, c14, c15, c16, c17, c18, c19, c20, c21, o22, wn22, lk1⟩
  case s11r1 =>
   rintro L u W ⟨hB, c0, c1, c2, c3, c4, c5, c6, c7, c8, c9, c10, c11, c12, c13, c14, c15, c16, c17, c18, c19, c20, c21, o22, wn22, lk1⟩ hf hd K hK
   dsimp only at hK
   have hd10 : L 10 = true := (by first | exact hd ⟨10, .data⟩ (by simp) rfl | exact hd ⟨10, .guard⟩ (by simp) rfl | exact hd ⟨10, .phase⟩ (by simp) rfl | exact hd ⟨10, .chain⟩ (by simp) rfl);have e10 := c10 hd10;rw [e10] at hK;have t0 := lk1.cell (i := 3) rfl;clear hd10;clear hd
   go_simp
   refine hK _ _ ?_ (fun h => by cases h)
   intro s hs
   cases hs
   exact ⟨hB, c0, c1, c2, c3, c4, c5, c6, c7, c8, c9, c10, (fun _ => rfl), c12, c13, c14, c15, c16, c17, c18, c19, c20, c21, o22, wn22, lk1⟩
  case s12r1 =>
   rintro L u W ⟨hB, c0, c1, c2, c3, c4, c5, c6, c7, c8, c9, c10, c11, c12, c13, c14, c15, c16, c17, c18, c19, c20, c21, o22, wn22, lk1⟩ hf hd K hK
   dsimp only at hK
   have hd8 : L 8 = true := (by first | exact hd ⟨8, .data⟩ (by simp) rfl | exact hd ⟨8, .guard⟩ (by simp) rfl | exact hd ⟨8, .phase⟩ (by simp) rfl | exact hd ⟨8, .chain⟩ (by simp) rfl);have hd11 : L 11 = true := (by first | exact hd ⟨11, .data⟩ (by simp) rfl | exact hd ⟨11, .guard⟩ (by simp) rfl | exact hd ⟨11, .phase⟩ (by simp) rfl | exact hd ⟨11, .chain⟩ (by simp) rfl);have e8 := c8 hd8;rw [e8] at hK;have e11 := c11 hd11;rw [e11] at hK;clear hd8;clear hd11;clear hd
   go_simp
   refine hK _ _ ?_ (fun h => by cases h)
   intro s hs
   cases hs
   exact ⟨hB, c0, c1, c2, c3, c4, c5, c6, c7, c8, c9, c10, c11, (fun _ => rfl), c13, c14, c15, c16, c17, c18, c19, c20, c21, o22, wn22, lk1⟩
  case s13r1 =>
   rintro L u W ⟨hB, c0, c1, c2, c3, c4, c5, c6, c7, c8, c9, c10, c11, c12, c13, c14, c15, c16, c17, c18, c19, c20, c21, o22, wn22, lk1⟩ hf hd K hK
   dsimp only at hK
   have hd12 : L 12 = true := (by first | exact hd ⟨12, .data⟩ (by simp) rfl | exact hd ⟨12, .guard⟩ (by simp) rfl | exact hd ⟨12, .phase⟩ (by simp) rfl | exact hd ⟨12, .chain⟩ (by simp) rfl);have e12 := c12 hd12;rw [e12] at hK;have t0 := (hB.cell (p := ⟨b2, o2 + y * 3, none⟩) hbb.out).trans w0;have t1 := (hB.cell (p := ⟨b2, o2 + y * 3 + 1, none⟩) hbb.out).trans w1;have t2 := (hB.cell (p := ⟨b2, o2 + y * 3 + 2, none⟩) hbb.out).trans w2;clear hd12;clear hd
   go_simp
   refine hK _ _ ?_ (fun h => by cases h)
   intro s hs
   cases hs
   exact ⟨hB, c0, c1, c2, c3, c4, c5, c6, c7, c8, c9, c10, c11, c12, (fun _ => rfl), c14, c15, c16, c17, c18, c19, c20, c21, o22, wn22, lk1⟩
  case s14r1 =>
   rintro L u W ⟨hB, c0, c1, c2, c3, c4, c5, c6, c7, c8, c9, c10, c11, c12, c13, c14, c15, c16, c17, c18, c19, c20, c21, o22, wn22, lk1⟩ hf hd K hK
   dsimp only at hK
   clear hd
   go_simp
   refine hK _ _ ?_ (fun h => by cases h)
   intro s hs
   cases hs
   exact ⟨hB, c0, c1, c2, c3, c4, c5, c6, c7, c8, c9, c10, c11, c12, c13, (fun _ => rfl), c15, c16, c17, c18, c19, c20, c21, o22, wn22, lk1⟩
  case s15r1 =>
   rintro L u W ⟨hB, c0, c1, c2, c3, c4, c5, c6, c7, c8, c9, c10, c11, c12, c13, c14, c15, c16, c17, c18, c19, c20, c21, o22, wn22, lk1⟩ hf hd K hK
   dsimp only at hK
   have hd14 : L 14 = true := (by first | exact hd ⟨14, .data⟩ (by simp) rfl | exact hd ⟨14, .guard⟩ (by simp) rfl | exact hd ⟨14, .phase⟩ (by simp) rfl | exact hd ⟨14, .chain⟩ (by simp) rfl);have e14 := c14 hd14;rw [e14] at hK;have t0 := (hB.cell (p := ⟨w.heap.size, 0, none⟩) HG.out).trans m0;clear hd14;clear hd
   go_simp
   refine hK _ _ ?_ (fun h => by cases h)
   intro s hs
   cases hs
   exact ⟨hB, c0, c1, c2, c3, c4, c5, c6, c7, c8, c9, c10, c11, c12, c13, c14, (fun _ => rfl), c16, c17, c18, c19, c20, c21, o22, wn22, lk1⟩
  case s16r1 =>
   rintro L u W ⟨hB, c0, c1, c2, c3, c4, c5, c6, c7, c8, c9, c10, c11, c12, c13, c14, c15, c16, c17, c18, c19, c20, c21, o22, wn22, lk1⟩ hf hd K hK
   dsimp only at hK
   clear hd
   go_simp
   refine hK _ _ ?_ (fun h => by cases h)
   intro s hs
   cases hs
   exact ⟨hB, c0, c1, c2, c3, c4, c5, c6, c7, c8, c9, c10, c11, c12, c13, c14, c15, (fun _ => rfl), c17, c18, c19, c20, c21, o22, wn22, lk1⟩
  case s17r1 =>
   rintro L u W ⟨hB, c0, c1, c2, c3, c4, c5, c6, c7, c8, c9, c10, c11, c12, c13, c14, c15, c16, c17, c18, c19, c20, c21, o22, wn22, lk1⟩ hf hd K hK
   dsimp only at hK
   have hd16 : L 16 = true := (by first | exact hd ⟨16, .data⟩ (by simp) rfl | exact hd ⟨16, .guard⟩ (by simp) rfl | exact hd ⟨16, .phase⟩ (by simp) rfl | exact hd ⟨16, .chain⟩ (by simp) rfl);have e16 := c16 hd16;rw [e16] at hK;clear hd16;clear hd
   go_simp
   refine hK _ _ ?_ (fun h => by cases h)
   intro s hs
   cases hs
   exact ⟨hB, c0, c1, c2, c3, c4, c5, c6, c7, c8, c9, c10, c11, c12, c13, c14, c15, c16, (fun _ => rfl), c18, c19, c20, c21, o22, wn22, lk1⟩
  case s18r1 =>
   rintro L u W ⟨hB, c0, c1, c2, c3, c4, c5, c6, c7, c8, c9, c10, c11, c12, c13, c14, c15, c16, c17, c18, c19, c20, c21, o22, wn22, lk1⟩ hf hd K hK
   dsimp only at hK
   have hd17 : L 17 = true := (by first | exact hd ⟨17, .data⟩ (by simp) rfl | exact hd ⟨17, .guard⟩ (by simp) rfl | exact hd ⟨17, .phase⟩ (by simp) rfl | exact hd ⟨17, .chain⟩ (by simp) rfl);have e17 := c17 hd17;rw [e17] at hK;have t0 := lk1.cell (i := 6) rfl;clear hd17;clear hd
   go_simp
   refine hK _ _ ?_ (fun h => by cases h)
   intro s hs
   cases hs
   exact ⟨hB, c0, c1, c2, c3, c4, c5, c6, c7, c8, c9, c10, c11, c12, c13, c14, c15, c16, c17, (fun _ => rfl), c19, c20, c21, o22, wn22, lk1⟩
  case s19r1 =>
   rintro L u W ⟨hB, c0, c1, c2, c3, c4, c5, c6, c7, c8, c9, c10, c11, c12, c13, c14, c15, c16, c17, c18, c19, c20, c21, o22, wn22, lk1⟩ hf hd K hK
   dsimp only at hK
   have hd15 : L 15 = true := (by first | exact hd ⟨15, .data⟩ (by simp) rfl | exact hd ⟨15, .guard⟩ (by simp) rfl | exact hd ⟨15, .phase⟩ (by simp) rfl | exact hd ⟨15, .chain⟩ (by simp) rfl);have hd18 : L 18 = true := (by first | exact hd ⟨18, .data⟩ (by simp) rfl | exact hd ⟨18, .guard⟩ (by simp) rfl | exact hd ⟨18, .phase⟩ (by simp) rfl | exact hd ⟨18, .chain⟩ (by simp) rfl);have e15 := c15 hd15;rw [e15] at hK;have e18 := c18 hd18;rw [e18] at hK;clear hd15;clear hd18;clear hd
   go_simp
   refine hK _ _ ?_ (fun h => by cases h)
   intro s hs
   cases hs
   exact ⟨hB, c0, c1, c2, c3, c4, c5, c6, c7, c8, c9, c10, c11, c12, c13, c14, c15, c16, c17, c18, (fun _ => rfl), c20, c21, o22, wn22, lk1⟩
  case s20r1 =>
   rintro L u W ⟨hB, c0, c1, c2, c3, c4, c5, c6, c7, c8, c9, c10, c11, c12, c13, c14, c15, c16, c17, c18, c19, c20, c21, o22, wn22, lk1⟩ hf hd K hK
   dsimp only at hK
   have hd19 : L 19 = true := (by first | exact hd ⟨19, .data⟩ (by simp) rfl | exact hd ⟨19, .guard⟩ (by simp) rfl | exact hd ⟨19, .phase⟩ (by simp) rfl | exact hd ⟨19, .chain⟩ (by simp) rfl);have e19 := c19 hd19;rw [e19] at hK;have t0 := (hB.cell (p := ⟨b2, o2 + z * 3, none⟩) hbb.out).trans y0;have t1 := (hB.cell (p := ⟨b2, o2 + z * 3 + 1, none⟩) hbb.out).trans y1;have t2 := (hB.cell (p := ⟨b2, o2 + z * 3 + 2, none⟩) hbb.out).trans y2;clear hd19;clear hd
   go_simp
   refine hK _ _ ?_ (fun h => by cases h)
   intro s hs
   cases hs
   exact ⟨hB, c0, c1, c2, c3, c4, c5, c6, c7, c8, c9, c10, c11, c12, c13, c14, c15, c16, c17, c18, c19, (fun _ => rfl), c21, o22, wn22, lk1⟩
  case s21r1 =>
   rintro L u W ⟨hB, c0, c1, c2, c3, c4, c5, c6, c7, c8, c9, c10, c11, c12, c13, c14, c15, c16, c17, c18, c19, c20, c21, o22, wn22, lk1⟩ hf hd K hK
   dsimp only at hK
   have hd6 : L 6 = true := (by first | exact hd ⟨6, .data⟩ (by simp) rfl | exact hd ⟨6, .guard⟩ (by simp) rfl | exact hd ⟨6, .phase⟩ (by simp) rfl | exact hd ⟨6, .chain⟩ (by simp) rfl);have hd13 : L 13 = true := (by first | exact hd ⟨13, .data⟩ (by simp) rfl | exact hd ⟨13, .guard⟩ (by simp) rfl | exact hd ⟨13, .phase⟩ (by simp) rfl | exact hd ⟨13, .chain⟩ (by simp) rfl);have hd20 : L 20 = true := (by first | exact hd ⟨20, .data⟩ (by simp) rfl | exact hd ⟨20, .guard⟩ (by simp) rfl | exact hd ⟨20, .phase⟩ (by simp) rfl | exact hd ⟨20, .chain⟩ (by simp) rfl);have e6 := c6 hd6;rw [e6] at hK;have e13 := c13 hd13;rw [e13] at hK;have e20 := c20 hd20;rw [e20] at hK;clear hd6;clear hd13;clear hd20;clear hd
   go_simp
   refine hK _ _ ?_ (fun h => by cases h)
   intro s hs
   cases hs
   exact ⟨hB, c0, c1, c2, c3, c4, c5, c6, c7, c8, c9, c10, c11, c12, c13, c14, c15, c16, c17, c18, c19, c20, (fun _ => rfl), o22, wn22, lk1⟩
  case s22r1 =>
   rintro L u W ⟨hB, c0, c1, c2, c3, c4, c5, c6, c7, c8, c9, c10, c11, c12, c13, c14, c15, c16, c17, c18, c19, c20, c21, o22, wn22, lk1⟩ hf hd K hK
   dsimp only at hK
   have hd21 : L 21 = true := (by first | exact hd ⟨21, .data⟩ (by simp) rfl | exact hd ⟨21, .phase⟩ (by simp) rfl);have k3 := o22 hf;have e21 := c21 hd21;rw [e21] at hK;have t0 := k3.cell (i := 0) rfl;have f0 := k3.frozen 0;have t1 := k3.cell (i := 1) rfl;have f1 := k3.frozen 1;have t2 := k3.cell (i := 2) rfl;have f2 := k3.frozen 2;have t3 := k3.cell (i := 3) rfl;have f3 := k3.frozen 3;have t4 := k3.cell (i := 4) rfl;have f4 := k3.frozen 4;have t5 := k3.cell (i := 5) rfl;have f5 := k3.frozen 5;have t6 := k3.cell (i := 6) rfl;have f6 := k3.frozen 6;have t7 := k3.cell (i := 7) rfl;have f7 := k3.frozen 7;have t8 := k3.cell (i := 8) rfl;have f8 := k3.frozen 8;clear hd;have hd21' := Lib.hid hd21;clear hd21
   go_simp
   have hd21 := hd21'.out;have hl0 : Lok _ ((w.heap.size + 1)) 58 #[.int .i64 p0, .int .i64 0, .int .i64 0, .int .i64 0, .int .i64 0, .int .i64 0, .int .i64 0, .int .i64 0, .int .i64 0] := k3.set (i := 0) (v := .int .i64 p0);have hl1 : Lok _ ((w.heap.size + 1)) 58 #[.int .i64 p0, .int .i64 p1, .int .i64 0, .int .i64 0, .int .i64 0, .int .i64 0, .int .i64 0, .int .i64 0, .int .i64 0] := hl0.set (i := 1) (v := .int .i64 p1);have hl2 : Lok _ ((w.heap.size + 1)) 58 #[.int .i64 p0, .int .i64 p1, .int .i64 p2, .int .i64 0, .int .i64 0, .int .i64 0, .int .i64 0, .int .i64 0, .int .i64 0] := hl1.set (i := 2) (v := .int .i64 p2);have hl3 : Lok _ ((w.heap.size + 1)) 58 #[.int .i64 p0, .int .i64 p1, .int .i64 p2, .int .i64 p3, .int .i64 0, .int .i64 0, .int .i64 0, .int .i64 0, .int .i64 0] := hl2.set (i := 3) (v := .int .i64 p3);have hl4 : Lok _ ((w.heap.size + 1)) 58 #[.int .i64 p0, .int .i64 p1, .int .i64 p2, .int .i64 p3, .int .i64 p4, .int .i64 0, .int .i64 0, .int .i64 0, .int .i64 0] := hl3.set (i := 4) (v := .int .i64 p4);have hl5 : Lok _ ((w.heap.size + 1)) 58 #[.int .i64 p0, .int .i64 p1, .int .i64 p2, .int .i64 p3, .int .i64 p4, .int .i64 p5, .int .i64 0, .int .i64 0, .int .i64 0] := hl4.set (i := 5) (v := .int .i64 p5);have hl6 : Lok _ ((w.heap.size + 1)) 58 #[.int .i64 p0, .int .i64 p1, .int .i64 p2, .int .i64 p3, .int .i64 p4, .int .i64 p5, .int .i64 p6, .int .i64 0, .int .i64 0] := hl5.set (i := 6) (v := .int .i64 p6);have hl7 : Lok _ ((w.heap.size + 1)) 58 #[.int .i64 p0, .int .i64 p1, .int .i64 p2, .int .i64 p3, .int .i64 p4, .int .i64 p5, .int .i64 p6, .int .i64 p7, .int .i64 0] := hl6.set (i := 7) (v := .int .i64 p7);have hl8 : Lok _ ((w.heap.size + 1)) 58 #[.int .i64 p0, .int .i64 p1, .int .i64 p2, .int .i64 p3, .int .i64 p4, .int .i64 p5, .int .i64 p6, .int .i64 p7, .int .i64 p8] := hl7.set (i := 8) (v := .int .i64 p8);have hlok := hl8
   refine hK undef _ (fun s h => by cases h) (fun _ => ?_)
   exact ⟨((((((((hB.setCell (by first | exact Nat.le_refl _ | assumption | (show _ ≤ _; omega) | (show ((w.heap.size + 1)) ≤ ((w.heap.size + 1)); omega)) _).setCell (by first | exact Nat.le_refl _ | assumption | (show _ ≤ _; omega) | (show ((w.heap.size + 1)) ≤ ((w.heap.size + 1)); omega)) _).setCell (by first | exact Nat.le_refl _ | assumption | (show _ ≤ _; omega) | (show ((w.heap.size + 1)) ≤ ((w.heap.size + 1)); omega)) _).setCell (by first | exact Nat.le_refl _ | assumption | (show _ ≤ _; omega) | (show ((w.heap.size + 1)) ≤ ((w.heap.size + 1)); omega)) _).setCell (by first | exact Nat.le_refl _ | assumption | (show _ ≤ _; omega) | (show ((w.heap.size + 1)) ≤ ((w.heap.size + 1)); omega)) _).setCell (by first | exact Nat.le_refl _ | assumption | (show _ ≤ _; omega) | (show ((w.heap.size + 1)) ≤ ((w.heap.size + 1)); omega)) _).setCell (by first | exact Nat.le_refl _ | assumption | (show _ ≤ _; omega) | (show ((w.heap.size + 1)) ≤ ((w.heap.size + 1)); omega)) _).setCell (by first | exact Nat.le_refl _ | assumption | (show _ ≤ _; omega) | (show ((w.heap.size + 1)) ≤ ((w.heap.size + 1)); omega)) _).setCell (by first | exact Nat.le_refl _ | assumption | (show _ ≤ _; omega) | (show ((w.heap.size + 1)) ≤ ((w.heap.size + 1)); omega)) _, c0, c1, c2, c3, c4, c5, c6, c7, c8, c9, c10, c11, c12, c13, c14, c15, c16, c17, c18, c19, c20, (fun _ => rfl), (fun h => by cases h), (fun _ => hlok), (((((((((lk1.far (by first | assumption | omega)).far (by first | assumption | omega)).far (by first | assumption | omega)).far (by first | assumption | omega)).far (by first | assumption | omega)).far (by first | assumption | omega)).far (by first | assumption | omega)).far (by first | assumption | omega)).far (by first | assumption | omega))⟩
 case finr1 =>
  rintro L u W hL ⟨hB, c0, c1, c2, c3, c4, c5, c6, c7, c8, c9, c10, c11, c12, c13, c14, c15, c16, c17, c18, c19, c20, c21, o22, wn22, lk1⟩
  have e0 := c0 (hL 0 (by decide));have e1 := c1 (hL 1 (by decide));have e2 := c2 (hL 2 (by decide));have e3 := c3 (hL 3 (by decide));have e4 := c4 (hL 4 (by decide));have e5 := c5 (hL 5 (by decide));have e6 := c6 (hL 6 (by decide));have e7 := c7 (hL 7 (by decide));have e8 := c8 (hL 8 (by decide));have e9 := c9 (hL 9 (by decide));have e10 := c10 (hL 10 (by decide));have e11 := c11 (hL 11 (by decide));have e12 := c12 (hL 12 (by decide));have e13 := c13 (hL 13 (by decide));have e14 := c14 (hL 14 (by decide));have e15 := c15 (hL 15 (by decide));have e16 := c16 (hL 16 (by decide));have e17 := c17 (hL 17 (by decide));have e18 := c18 (hL 18 (by decide));have e19 := c19 (hL 19 (by decide));have e20 := c20 (hL 20 (by decide));have e21 := c21 (hL 21 (by decide));have hlok22 := wn22 (hL 22 (by decide));clear hL c0 c1 c2 c3 c4 c5 c6 c7 c8 c9 c10 c11 c12 c13 c14 c15 c16 c17 c18 c19 c20 c21 o22 wn22
  try simp only [e0, e1, e2, e3, e4, e5, e6, e7, e8, e9, e10, e11, e12, e13, e14, e15, e16, e17, e18, e19, e20, e21]
  clear e0 e1 e2 e3 e4 e5 e6 e7 e8 e9 e10 e11 e12 e13 e14 e15 e16 e17 e18 e19 e20 e21;have u0 := hlok22.cell (i := 0) rfl;have u1 := hlok22.cell (i := 1) rfl;have u2 := hlok22.cell (i := 2) rfl;have u3 := hlok22.cell (i := 3) rfl;have u4 := hlok22.cell (i := 4) rfl;have u5 := hlok22.cell (i := 5) rfl;have u6 := hlok22.cell (i := 6) rfl;have u7 := hlok22.cell (i := 7) rfl;have u8 := hlok22.cell (i := 8) rfl
  go_wp2_with fail
  exact bodyPost_ret (v := .agg #[.int .i64 p0, .int .i64 p1, .int .i64 p2, .int .i64 p3, .int .i64 p4, .int .i64 p5, .int .i64 p6, .int .i64 p7, .int .i64 p8]) (by simp [results, Tryz.results25, go_sem, u0, u1, u2, u3, u4, u5, u6, u7, u8]) rfl ⟨rfl, HB.out.trans (hB.mono (Nat.le_succ _))⟩
end Go.Proofs.YtcnbbanpnoigdaaGreat
namespace Go.Proofs.YtcnbbanpnoigdaaGreat
open Go.RowKit

set_option maxRecDepth 100000 in
set_option maxHeartbeats 16000000 in
theorem rtame15_any (pa1 pa2 pa3 pa4 : Option Addr) (n1 n2 n3 n4 c1 c2 c3 c4 : Nat) (FV FT FN FC : Nat → Nat → Int) (w : World) (hm : MsW w pa1 pa2 pa3 pa4 n1 n2 n3 n4 FV FT FN FC) :
  Calls Tryz.prog 18 #[.agg #[.slice pa1 n1 c1, .slice pa2 n2 c2, .slice pa3 n3 c3, .slice pa4 n4 c4]] w fun e w' => e = .returned (.bool (tmB n1 n2 n3 n4 FV FT FN FC)) ∧ Below w.heap.size w w' := by
 have HB := Lib.hid (Below.refl w.heap.size w);have R := Lib.hid hm.1.1;have IS := Lib.hid (fun W (h : Below w.heap.size w W) => rmis_any pa1 pa2 pa3 pa4 n1 n2 n3 n4 c1 c2 c3 c4 FV FT FN FC W (hm.keep h));have hn := hm.2.1;have WI := Lib.hid (fun x W => rwithin15_any x W);clear hm;unfold tmB
 go_enter Tryz.func18, Tryz.ntmps18
 go_upto_region 1 with fail
 have hbm := below_new1 w (.cells #[.slice pa1 n1 c1, .slice pa2 n2 c2, .slice pa3 n3 c3, .slice pa4 n4 c4] 26)
 have zm : (w.alloc (.cells #[.slice pa1 n1 c1, .slice pa2 n2 c2, .slice pa3 n3 c3, .slice pa4 n4 c4] 26)).heap.size = w.heap.size + 1 := by simp
 have HB := Lib.hid hbm;have km := Lib.hid (Lok.new w 26 #[.slice pa1 n1 c1, .slice pa2 n2 c2, .slice pa3 n3 c3, .slice pa4 n4 c4]);clear hbm;generalize w.alloc (.cells #[.slice pa1 n1 c1, .slice pa2 n2 c2, .slice pa3 n3 c3, .slice pa4 n4 c4] 26) = Vm at *;clear zm
 go_wp2_with fail
 go_loopw [3] (fun x wr => ∃ k : Nat, x = .int .i64 k ∧ k ≤ n1 ∧ (∀ j, j < k → (sB 4096 (FV j 0) && (sB 4096 (FV j 1) && sB 4096 (FV j 2))) = true) ∧ Lok wr w.heap.size 26 #[.slice pa1 n1 c1, .slice pa2 n2 c2, .slice pa3 n3 c3, .slice pa4 n4 c4] ∧ Below w.heap.size w wr) (fun x _ => n1 - (intOf x).toNat)
 case atStart => exact ⟨0, rfl, Nat.zero_le _, fun j h => absurd h (by omega), km.out, HB.out⟩
 case round =>
  clear HB km;obtain ⟨k, rfl, hk, hR, hM, hB⟩ := hrel;have HB := Lib.hid hB;have HR := Lib.hid hR;have km := Lib.hid hM;clear hB hR hM;have m0 := km.out.cell (i := 0) rfl
  by_cases hlt : k < n1
  ·obtain ⟨b, o, rfl, hb, hc⟩ := (R.out.keep HB.out).at hlt
   have c0 := hc k hlt 0 (by omega);have c1 := hc k hlt 1 (by omega);have c2 := hc k hlt 2 (by omega);rw [Nat.add_zero] at c0;rw [← Nat.add_assoc] at c1 c2;have NO : Hid ((sB 4096 (FV k 0) && (sB 4096 (FV k 1) && sB 4096 (FV k 2))) = false → tvB FV n1 = false) := Lib.hid (fun q => allB_no (P := fun i => sB 4096 (FV i 0) && (sB 4096 (FV i 1) && sB 4096 (FV i 2))) hlt q)
   have YES : Hid ((sB 4096 (FV k 0) && (sB 4096 (FV k 1) && sB 4096 (FV k 2))) = true → ∀ j, j < k + 1 → (sB 4096 (FV j 0) && (sB 4096 (FV j 1) && sB 4096 (FV j 2))) = true) := Lib.hid (fun q j hj => by
    by_cases e : j = k
    ·rw [e]; exact q
    ·exact HR.out j (by omega))
   clear hc hb;generalize FV k 0 = x at *;generalize FV k 1 = y at *;generalize FV k 2 = z at *
   have i0 : (0 : Int) ≤ (k : Int) := by omega
   have i1 : (k : Int) < (n1 : Int) := by omega
   have i2 : ((k : Int)).toNat = k := by omega
   have Wx := WI.out x;have Wy := WI.out y;have Wz := WI.out z
   cases sx : sB 4096 x with
   | false =>
    have E := Lib.hid (NO.out (by rw [sx]; rfl));rw [sx] at Wx;clear YES NO sx
    go_wp2_with fail
    ((with_reducible refine (Wx _).mono ?_); rintro e w_x ⟨rfl, hb_x⟩);replace HB := Lib.hid (HB.out.trans (hb_x.mono HB.out.size));replace km := Lib.hid (km.out.keep hb_x);clear m0;have m0 := km.out.cell (i := 0) rfl;replace c0 := keepc hb_x c0;replace c1 := keepc hb_x c1;replace c2 := keepc hb_x c2;clear hb_x;clear c0 c1 c2 Wx Wy Wz
    go_wp2
    go_ret
    exact ⟨by rw [E.out]; rfl, HB.out⟩
   | true =>
    cases sy : sB 4096 y with
    | false =>
     have E := Lib.hid (NO.out (by rw [sx, sy]; rfl));rw [sx] at Wx;rw [sy] at Wy;clear YES NO sx sy
     go_wp2_with fail
     ((with_reducible refine (Wx _).mono ?_); rintro e w_x ⟨rfl, hb_x⟩);replace HB := Lib.hid (HB.out.trans (hb_x.mono HB.out.size));replace km := Lib.hid (km.out.keep hb_x);clear m0;have m0 := km.out.cell (i := 0) rfl;replace c0 := keepc hb_x c0;replace c1 := keepc hb_x c1;replace c2 := keepc hb_x c2;clear hb_x
     go_wp2_with fail
     ((with_reducible refine (Wy _).mono ?_); rintro e w_y ⟨rfl, hb_y⟩);replace HB := Lib.hid (HB.out.trans (hb_y.mono HB.out.size));replace km := Lib.hid (km.out.keep hb_y);clear m0;have m0 := km.out.cell (i := 0) rfl;replace c0 := keepc hb_y c0;replace c1 := keepc hb_y c1;replace c2 := keepc hb_y c2;clear hb_y;clear c0 c1 c2 Wx Wy Wz
     go_wp2
     go_ret
     exact ⟨by rw [E.out]; rfl, HB.out⟩
    | true =>
     cases sz : sB 4096 z with
     | false =>
      have E := Lib.hid (NO.out (by rw [sx, sy, sz]; rfl));rw [sx] at Wx;rw [sy] at Wy;rw [sz] at Wz;clear YES NO sx sy sz
      go_wp2_with fail
      ((with_reducible refine (Wx _).mono ?_); rintro e w_x ⟨rfl, hb_x⟩);replace HB := Lib.hid (HB.out.trans (hb_x.mono HB.out.size));replace km := Lib.hid (km.out.keep hb_x);clear m0;have m0 := km.out.cell (i := 0) rfl;replace c0 := keepc hb_x c0;replace c1 := keepc hb_x c1;replace c2 := keepc hb_x c2;clear hb_x
      go_wp2_with fail
      ((with_reducible refine (Wy _).mono ?_); rintro e w_y ⟨rfl, hb_y⟩);replace HB := Lib.hid (HB.out.trans (hb_y.mono HB.out.size));replace km := Lib.hid (km.out.keep hb_y);clear m0;have m0 := km.out.cell (i := 0) rfl;replace c0 := keepc hb_y c0;replace c1 := keepc hb_y c1;replace c2 := keepc hb_y c2;clear hb_y
      go_wp2_with fail
      ((with_reducible refine (Wz _).mono ?_); rintro e w_z ⟨rfl, hb_z⟩);replace HB := Lib.hid (HB.out.trans (hb_z.mono HB.out.size));replace km := Lib.hid (km.out.keep hb_z);clear m0;have m0 := km.out.cell (i := 0) rfl;replace c0 := keepc hb_z c0;replace c1 := keepc hb_z c1;replace c2 := keepc hb_z c2;clear hb_z;clear c0 c1 c2 Wx Wy Wz
      go_wp2
      go_ret
      exact ⟨by rw [E.out]; rfl, HB.out⟩
     | true =>
      have E := Lib.hid (YES.out (by rw [sx, sy, sz]; rfl));rw [sx] at Wx;rw [sy] at Wy;rw [sz] at Wz;clear YES NO sx sy sz
      go_wp2_with fail
      ((with_reducible refine (Wx _).mono ?_); rintro e w_x ⟨rfl, hb_x⟩);replace HB := Lib.hid (HB.out.trans (hb_x.mono HB.out.size));replace km := Lib.hid (km.out.keep hb_x);clear m0;have m0 := km.out.cell (i := 0) rfl;replace c0 := keepc hb_x c0;replace c1 := keepc hb_x c1;replace c2 := keepc hb_x c2;clear hb_x
      go_wp2_with fail
      ((with_reducible refine (Wy _).mono ?_); rintro e w_y ⟨rfl, hb_y⟩);replace HB := Lib.hid (HB.out.trans (hb_y.mono HB.out.size));replace km := Lib.hid (km.out.keep hb_y);clear m0;have m0 := km.out.cell (i := 0) rfl;replace c0 := keepc hb_y c0;replace c1 := keepc hb_y c1;replace c2 := keepc hb_y c2;clear hb_y
      go_wp2_with fail
      ((with_reducible refine (Wz _).mono ?_); rintro e w_z ⟨rfl, hb_z⟩);replace HB := Lib.hid (HB.out.trans (hb_z.mono HB.out.size));replace km := Lib.hid (km.out.keep hb_z);clear m0;have m0 := km.out.cell (i := 0) rfl;replace c0 := keepc hb_z c0;replace c1 := keepc hb_z c1;replace c2 := keepc hb_z c2;clear hb_z;clear c0 c1 c2 Wx Wy Wz
      go_wp2
      go_roundw
      case rel => exact ⟨k + 1, by go_num, hlt, E.out, km.out, HB.out⟩
      case measure => simp [intOf]; omega
  ·obtain rfl : k = n1 := by omega
   have E : Hid (tvB FV k = true) := Lib.hid (allB_yes HR.out);have m1 := km.out.cell (i := 1) rfl;have m2 := km.out.cell (i := 2) rfl;have m3 := km.out.cell (i := 3) rfl
   go_wp2_with fail
   clear m0 m1 m2 m3
   (((with_reducible refine (IS.out _ HB.out).mono ?_); rintro e w1 ⟨rfl, hb1⟩); replace HB := Lib.hid (HB.out.trans (hb1.mono HB.out.size)); clear hb1)
   go_wp2
   go_ret
   exact ⟨by rw [E.out]; rfl, HB.out⟩
set_option maxRecDepth 100000 in
set_option maxHeartbeats 8000000 in
theorem rfacing15_any (pa1 pa2 pa3 pa4 : Option Addr) (n1 n2 n3 n4 c1 c2 c3 c4 : Nat) (FV FT FN FC : Nat → Nat → Int) (i : Int) (w : World) (hm : MsW w pa1 pa2 pa3 pa4 n1 n2 n3 n4 FV FT FN FC) :
  Calls Tryz.prog 7 #[.agg #[.slice pa1 n1 c1, .slice pa2 n2 c2, .slice pa3 n3 c3, .slice pa4 n4 c4], .int .i64 i] w fun e w' => e = .returned (.tuple #[.int .i64 ((chF (tmB n1 n2 n3 n4 FV FT FN FC) n4 FV FC).A i), .int .i64 ((chF (tmB n1 n2 n3 n4 FV FT FN FC) n4 FV FC).S i), .bool ((chF (tmB n1 n2 n3 n4 FV FT FN FC) n4 FV FC).K i)]) ∧ Below w.heap.size w w' := by
 have HB := Lib.hid (Below.refl w.heap.size w);have TA := Lib.hid (fun W (h : Below w.heap.size w W) => rtame15_any pa1 pa2 pa3 pa4 n1 n2 n3 n4 c1 c2 c3 c4 FV FT FN FC W (hm.keep h));have PL := Lib.hid (fun W => rplace15_any pa1 pa2 pa3 pa4 n1 n2 n3 n4 c1 c2 c3 c4 i W)
 cases ht : tmB n1 n2 n3 n4 FV FT FN FC with
 | false =>
  obtain ⟨z1, z2, z3⟩ := chF_out (t := false) (n := n4) (FV := FV) (FC := FC) (i := i) rfl;rw [z1, z2, z3];rw [ht] at TA;clear z1 z2 z3 hm ht
  go_enter Tryz.func7, Tryz.ntmps7
  go_upto_region 1 with fail
  have hbm := below_new1 w (.cells #[.slice pa1 n1 c1, .slice pa2 n2 c2, .slice pa3 n3 c3, .slice pa4 n4 c4] 26)
  have zm : (w.alloc (.cells #[.slice pa1 n1 c1, .slice pa2 n2 c2, .slice pa3 n3 c3, .slice pa4 n4 c4] 26)).heap.size = w.heap.size + 1 := by simp
  have HB := Lib.hid hbm;have km := Lib.hid (Lok.new w 26 #[.slice pa1 n1 c1, .slice pa2 n2 c2, .slice pa3 n3 c3, .slice pa4 n4 c4]);clear hbm;generalize w.alloc (.cells #[.slice pa1 n1 c1, .slice pa2 n2 c2, .slice pa3 n3 c3, .slice pa4 n4 c4] 26) = Vm at *;clear zm;have m0 := km.out.cell (i := 0) rfl;have m1 := km.out.cell (i := 1) rfl;have m2 := km.out.cell (i := 2) rfl;have m3 := km.out.cell (i := 3) rfl
  go_wp2_with fail
  clear m0 m1 m2 m3
  (((with_reducible refine (TA.out _ HB.out).mono ?_); rintro e w1 ⟨rfl, hb1⟩); replace HB := Lib.hid (HB.out.trans (hb1.mono HB.out.size)); replace km := Lib.hid (km.out.keep hb1); clear hb1)
  clear TA;clear km
  go_wp2
  go_ret3
  exact ⟨rfl, HB.out⟩
 | true =>
  rw [ht] at TA
  cases hp : plB i n4 with
  | false =>
   rw [hp] at PL;obtain ⟨z1, z2, z3⟩ := chF_out (t := true) (n := n4) (FV := FV) (FC := FC) (i := i) (by rw [hp]; rfl);rw [z1, z2, z3];clear z1 z2 z3 hm ht hp
   go_enter Tryz.func7, Tryz.ntmps7
   go_upto_region 1 with fail
   have hbm := below_new1 w (.cells #[.slice pa1 n1 c1, .slice pa2 n2 c2, .slice pa3 n3 c3, .slice pa4 n4 c4] 26)
   have zm : (w.alloc (.cells #[.slice pa1 n1 c1, .slice pa2 n2 c2, .slice pa3 n3 c3, .slice pa4 n4 c4] 26)).heap.size = w.heap.size + 1 := by simp
   have HB := Lib.hid hbm;have km := Lib.hid (Lok.new w 26 #[.slice pa1 n1 c1, .slice pa2 n2 c2, .slice pa3 n3 c3, .slice pa4 n4 c4]);clear hbm;generalize w.alloc (.cells #[.slice pa1 n1 c1, .slice pa2 n2 c2, .slice pa3 n3 c3, .slice pa4 n4 c4] 26) = Vm at *;clear zm;have m0 := km.out.cell (i := 0) rfl;have m1 := km.out.cell (i := 1) rfl;have m2 := km.out.cell (i := 2) rfl;have m3 := km.out.cell (i := 3) rfl
   go_wp2_with fail
   clear m0 m1 m2 m3
   (((with_reducible refine (TA.out _ HB.out).mono ?_); rintro e w1 ⟨rfl, hb1⟩); replace HB := Lib.hid (HB.out.trans (hb1.mono HB.out.size)); replace km := Lib.hid (km.out.keep hb1); clear hb1)
   clear TA;have m0 := km.out.cell (i := 0) rfl;have m1 := km.out.cell (i := 1) rfl;have m2 := km.out.cell (i := 2) rfl;have m3 := km.out.cell (i := 3) rfl
   go_wp2_with fail
   clear m0 m1 m2 m3
   (((with_reducible refine (PL.out _).mono ?_); rintro e w2 ⟨rfl, hb2⟩); replace HB := Lib.hid (HB.out.trans (hb2.mono HB.out.size)); replace km := Lib.hid (km.out.keep hb2); clear hb2)
   clear PL;clear km
   go_wp2
   go_ret3
   exact ⟨rfl, HB.out⟩
  | true =>
   rw [hp] at PL;have pl := plB_iff.1 hp;obtain ⟨k, rfl⟩ : ∃ k : Nat, i = (k : Int) := ⟨i.toNat, by omega⟩
   have hk4 : k < n4 := by omega
   obtain ⟨z1, z2, z3⟩ := lf_at FV FC hk4;rw [z1, z2, z3];clear z1 z2 z3;have P := Lib.hid (fun W (h : Below w.heap.size w W) => rpoints_any pa1 pa2 pa3 pa4 n1 n2 n3 n4 c1 c2 c3 c4 FV FT FN FC k W (hm.keep h) hk4 (tm_range ht k hk4));have F := Lib.hid (fun W => rfacing_any (pp FV FC k 0 0) (pp FV FC k 0 1) (pp FV FC k 0 2) (pp FV FC k 1 0) (pp FV FC k 1 1) (pp FV FC k 1 2) (pp FV FC k 2 0) (pp FV FC k 2 1) (pp FV FC k 2 2) true (by rw [tm_s3 ht hk4 (by omega), tm_s3 ht hk4 (by omega), tm_s3 ht hk4 (by omega)]; rfl) W);unfold lfA lfS lfK nmA nmB nmC;generalize fcA true _ _ _ = fa at *;generalize fcS true _ _ _ = fs at *;generalize fcE true _ _ _ = fe at *;generalize pp FV FC k 0 0 = p0 at *;generalize pp FV FC k 0 1 = p1 at *;generalize pp FV FC k 0 2 = p2 at *;generalize pp FV FC k 1 0 = p3 at *;generalize pp FV FC k 1 1 = p4 at *;generalize pp FV FC k 1 2 = p5 at *;generalize pp FV FC k 2 0 = p6 at *;generalize pp FV FC k 2 1 = p7 at *;generalize pp FV FC k 2 2 = p8 at *;clear hm ht hp pl hk4
   go_enter Tryz.func7, Tryz.ntmps7
   go_upto_region 1 with fail
   have hbm := below_new1 w (.cells #[.slice pa1 n1 c1, .slice pa2 n2 c2, .slice pa3 n3 c3, .slice pa4 n4 c4] 26)
   have zm : (w.alloc (.cells #[.slice pa1 n1 c1, .slice pa2 n2 c2, .slice pa3 n3 c3, .slice pa4 n4 c4] 26)).heap.size = w.heap.size + 1 := by simp
   have HB := Lib.hid hbm;have km := Lib.hid (Lok.new w 26 #[.slice pa1 n1 c1, .slice pa2 n2 c2, .slice pa3 n3 c3, .slice pa4 n4 c4]);clear hbm;generalize w.alloc (.cells #[.slice pa1 n1 c1, .slice pa2 n2 c2, .slice pa3 n3 c3, .slice pa4 n4 c4] 26) = Vm at *;clear zm;have m0 := km.out.cell (i := 0) rfl;have m1 := km.out.cell (i := 1) rfl;have m2 := km.out.cell (i := 2) rfl;have m3 := km.out.cell (i := 3) rfl
   go_wp2_with fail
   clear m0 m1 m2 m3
   (((with_reducible refine (TA.out _ HB.out).mono ?_); rintro e w1 ⟨rfl, hb1⟩); replace HB := Lib.hid (HB.out.trans (hb1.mono HB.out.size)); replace km := Lib.hid (km.out.keep hb1); clear hb1)
   clear TA;have m0 := km.out.cell (i := 0) rfl;have m1 := km.out.cell (i := 1) rfl;have m2 := km.out.cell (i := 2) rfl;have m3 := km.out.cell (i := 3) rfl
   go_wp2_with fail
   clear m0 m1 m2 m3
   (((with_reducible refine (PL.out _).mono ?_); rintro e w2 ⟨rfl, hb2⟩); replace HB := Lib.hid (HB.out.trans (hb2.mono HB.out.size)); replace km := Lib.hid (km.out.keep hb2); clear hb2)
   clear PL;have m0 := km.out.cell (i := 0) rfl;have m1 := km.out.cell (i := 1) rfl;have m2 := km.out.cell (i := 2) rfl;have m3 := km.out.cell (i := 3) rfl
   go_wp2_with fail
   clear m0 m1 m2 m3;((with_reducible refine (P.out _ HB.out).mono ?_); rintro e w3 ⟨rfl, hb3⟩);replace HB := Lib.hid (HB.out.trans (hb3.mono HB.out.size));clear hb3
   go_upto_region 4 with fail
   have hb3 := below_new1 w3 (.cells #[.int .i64 p0, .int .i64 p1, .int .i64 p2, .int .i64 p3, .int .i64 p4, .int .i64 p5, .int .i64 p6, .int .i64 p7, .int .i64 p8] 58);replace HB := Lib.hid (HB.out.trans (hb3.mono HB.out.size));have k3 := Lib.hid (Lok.new w3 58 #[.int .i64 p0, .int .i64 p1, .int .i64 p2, .int .i64 p3, .int .i64 p4, .int .i64 p5, .int .i64 p6, .int .i64 p7, .int .i64 p8]);clear hb3;generalize w3.alloc (.cells #[.int .i64 p0, .int .i64 p1, .int .i64 p2, .int .i64 p3, .int .i64 p4, .int .i64 p5, .int .i64 p6, .int .i64 p7, .int .i64 p8] 58) = V3 at *;generalize w3.heap.size = g3 at *;clear P km;have t0 := k3.out.cell (i := 0) rfl;have t1 := k3.out.cell (i := 1) rfl;have t2 := k3.out.cell (i := 2) rfl;have t3 := k3.out.cell (i := 3) rfl;have t4 := k3.out.cell (i := 4) rfl;have t5 := k3.out.cell (i := 5) rfl;have t6 := k3.out.cell (i := 6) rfl;have t7 := k3.out.cell (i := 7) rfl;have t8 := k3.out.cell (i := 8) rfl
   go_wp2_with fail
   clear t0 t1 t2 t3 t4 t5 t6 t7 t8
   (((with_reducible refine (F.out _).mono ?_); rintro e w4 ⟨rfl, hb4⟩); replace HB := Lib.hid (HB.out.trans (hb4.mono HB.out.size)); clear hb4)
   clear F
   go_wp2
   go_ret3
   exact ⟨rfl, HB.out⟩
set_option maxRecDepth 100000 in
set_option maxHeartbeats 8000000 in
theorem rshadow15_any (pa1 pa2 pa3 pa4 : Option Addr) (n1 n2 n3 n4 c1 c2 c3 c4 : Nat) (FV FT FN FC : Nat → Nat → Int) (i ax : Int) (w : World) (hm : MsW w pa1 pa2 pa3 pa4 n1 n2 n3 n4 FV FT FN FC) :
  Calls Tryz.prog 9 #[.agg #[.slice pa1 n1 c1, .slice pa2 n2 c2, .slice pa3 n3 c3, .slice pa4 n4 c4], .int .i64 i, .int .i64 ax] w fun e w' => e = .returned (.tuple #[.agg #[.int .i64 (vF (shT (tmB n1 n2 n3 n4 FV FT FN FC) n4 i ax) (shX FV FC ax.toNat i.toNat 0)), .int .i64 (vF (shT (tmB n1 n2 n3 n4 FV FT FN FC) n4 i ax) (shY FV FC ax.toNat i.toNat 0)), .int .i64 (vF (shT (tmB n1 n2 n3 n4 FV FT FN FC) n4 i ax) (shX FV FC ax.toNat i.toNat 1)), .int .i64 (vF (shT (tmB n1 n2 n3 n4 FV FT FN FC) n4 i ax) (shY FV FC ax.toNat i.toNat 1)), .int .i64 (vF (shT (tmB n1 n2 n3 n4 FV FT FN FC) n4 i ax) (shX FV FC ax.toNat i.toNat 2)), .int .i64 (vF (shT (tmB n1 n2 n3 n4 FV FT FN FC) n4 i ax) (shY FV FC ax.toNat i.toNat 2))], .int .i64 (agE (shT (tmB n1 n2 n3 n4 FV FT FN FC) n4 i ax))]) ∧ Below w.heap.size w w' := by
 have HB := Lib.hid (Below.refl w.heap.size w);have TA := Lib.hid (fun W (h : Below w.heap.size w W) => rtame15_any pa1 pa2 pa3 pa4 n1 n2 n3 n4 c1 c2 c3 c4 FV FT FN FC W (hm.keep h));have PL := Lib.hid (fun W => rplace15_any pa1 pa2 pa3 pa4 n1 n2 n3 n4 c1 c2 c3 c4 i W)
 cases ht : tmB n1 n2 n3 n4 FV FT FN FC with
 | false =>
  rw [show shT false n4 i ax = false from rfl, show agE false = 1 from rfl]
  simp only [vF_no]
  rw [ht] at TA;clear hm ht
  go_enter Tryz.func9, Tryz.ntmps9
  go_upto_region 1 with fail
  have hbm := below_new1 w (.cells #[.slice pa1 n1 c1, .slice pa2 n2 c2, .slice pa3 n3 c3, .slice pa4 n4 c4] 26)
  have zm : (w.alloc (.cells #[.slice pa1 n1 c1, .slice pa2 n2 c2, .slice pa3 n3 c3, .slice pa4 n4 c4] 26)).heap.size = w.heap.size + 1 := by simp
  have HB := Lib.hid hbm;have km := Lib.hid (Lok.new w 26 #[.slice pa1 n1 c1, .slice pa2 n2 c2, .slice pa3 n3 c3, .slice pa4 n4 c4]);clear hbm;generalize w.alloc (.cells #[.slice pa1 n1 c1, .slice pa2 n2 c2, .slice pa3 n3 c3, .slice pa4 n4 c4] 26) = Vm at *;have hbr := below_new1 Vm (.cells #[.int .i64 0, .int .i64 0, .int .i64 0, .int .i64 0, .int .i64 0, .int .i64 0] 37);replace km := Lib.hid (km.out.keep hbr)
  have zr : (Vm.alloc (.cells #[.int .i64 0, .int .i64 0, .int .i64 0, .int .i64 0, .int .i64 0, .int .i64 0] 37)).heap.size = Vm.heap.size + 1 := by simp
  replace HB := Lib.hid (HB.out.trans (hbr.mono HB.out.size));have kr := Lib.hid (Lok.new Vm 37 #[.int .i64 0, .int .i64 0, .int .i64 0, .int .i64 0, .int .i64 0, .int .i64 0]);clear hbr;generalize Vm.alloc (.cells #[.int .i64 0, .int .i64 0, .int .i64 0, .int .i64 0, .int .i64 0, .int .i64 0] 37) = Vr at *;rw [zm] at kr zr;clear zm zr;have m0 := km.out.cell (i := 0) rfl;have m1 := km.out.cell (i := 1) rfl;have m2 := km.out.cell (i := 2) rfl;have m3 := km.out.cell (i := 3) rfl
  go_wp2_with fail
  clear m0 m1 m2 m3
  (((with_reducible refine (TA.out _ HB.out).mono ?_); rintro e w1 ⟨rfl, hb1⟩); replace HB := Lib.hid (HB.out.trans (hb1.mono HB.out.size)); replace km := Lib.hid (km.out.keep hb1); replace kr := Lib.hid (kr.out.keep hb1); clear hb1)
  clear TA;clear km;have r0 := kr.out.cell (i := 0) rfl;have f0 := kr.out.frozen 0;have r1 := kr.out.cell (i := 1) rfl;have f1 := kr.out.frozen 1;have r2 := kr.out.cell (i := 2) rfl;have f2 := kr.out.frozen 2;have r3 := kr.out.cell (i := 3) rfl;have f3 := kr.out.frozen 3;have r4 := kr.out.cell (i := 4) rfl;have f4 := kr.out.frozen 4;have r5 := kr.out.cell (i := 5) rfl;have f5 := kr.out.frozen 5
  go_wp2_with fail
  exact bodyPost_ret (v := .tuple #[.agg #[.int .i64 0, .int .i64 0, .int .i64 0, .int .i64 0, .int .i64 0, .int .i64 0], .int .i64 1]) (by simp [results, Tryz.results9, go_sem, r0, r1, r2, r3, r4, r5]) rfl ⟨rfl, (((((HB.out.setCell (by simp <;> omega) _).setCell (by simp <;> omega) _).setCell (by simp <;> omega) _).setCell (by simp <;> omega) _).setCell (by simp <;> omega) _).setCell (by simp <;> omega) _⟩
 | true =>
  rw [ht] at TA
  cases hp : plB i n4 with
  | false =>
   rw [hp] at PL;rw [show shT true n4 i ax = false from by unfold shT; rw [hp]; rfl, show agE false = 1 from rfl]
   simp only [vF_no]
   clear hm ht hp
   go_enter Tryz.func9, Tryz.ntmps9
   go_upto_region 1 with fail
   have hbm := below_new1 w (.cells #[.slice pa1 n1 c1, .slice pa2 n2 c2, .slice pa3 n3 c3, .slice pa4 n4 c4] 26)
   have zm : (w.alloc (.cells #[.slice pa1 n1 c1, .slice pa2 n2 c2, .slice pa3 n3 c3, .slice pa4 n4 c4] 26)).heap.size = w.heap.size + 1 := by simp
   have HB := Lib.hid hbm;have km := Lib.hid (Lok.new w 26 #[.slice pa1 n1 c1, .slice pa2 n2 c2, .slice pa3 n3 c3, .slice pa4 n4 c4]);clear hbm;generalize w.alloc (.cells #[.slice pa1 n1 c1, .slice pa2 n2 c2, .slice pa3 n3 c3, .slice pa4 n4 c4] 26) = Vm at *;have hbr := below_new1 Vm (.cells #[.int .i64 0, .int .i64 0, .int .i64 0, .int .i64 0, .int .i64 0, .int .i64 0] 37);replace km := Lib.hid (km.out.keep hbr)
   have zr : (Vm.alloc (.cells #[.int .i64 0, .int .i64 0, .int .i64 0, .int .i64 0, .int .i64 0, .int .i64 0] 37)).heap.size = Vm.heap.size + 1 := by simp
   replace HB := Lib.hid (HB.out.trans (hbr.mono HB.out.size));have kr := Lib.hid (Lok.new Vm 37 #[.int .i64 0, .int .i64 0, .int .i64 0, .int .i64 0, .int .i64 0, .int .i64 0]);clear hbr;generalize Vm.alloc (.cells #[.int .i64 0, .int .i64 0, .int .i64 0, .int .i64 0, .int .i64 0, .int .i64 0] 37) = Vr at *;rw [zm] at kr zr;clear zm zr;have m0 := km.out.cell (i := 0) rfl;have m1 := km.out.cell (i := 1) rfl;have m2 := km.out.cell (i := 2) rfl;have m3 := km.out.cell (i := 3) rfl
   go_wp2_with fail
   clear m0 m1 m2 m3
   (((with_reducible refine (TA.out _ HB.out).mono ?_); rintro e w1 ⟨rfl, hb1⟩); replace HB := Lib.hid (HB.out.trans (hb1.mono HB.out.size)); replace km := Lib.hid (km.out.keep hb1); replace kr := Lib.hid (kr.out.keep hb1); clear hb1)
   clear TA;have m0 := km.out.cell (i := 0) rfl;have m1 := km.out.cell (i := 1) rfl;have m2 := km.out.cell (i := 2) rfl;have m3 := km.out.cell (i := 3) rfl
   go_wp2_with fail
   clear m0 m1 m2 m3
   (((with_reducible refine (PL.out _).mono ?_); rintro e w2 ⟨rfl, hb2⟩); replace HB := Lib.hid (HB.out.trans (hb2.mono HB.out.size)); replace km := Lib.hid (km.out.keep hb2); replace kr := Lib.hid (kr.out.keep hb2); clear hb2)
   clear PL;clear km;have r0 := kr.out.cell (i := 0) rfl;have f0 := kr.out.frozen 0;have r1 := kr.out.cell (i := 1) rfl;have f1 := kr.out.frozen 1;have r2 := kr.out.cell (i := 2) rfl;have f2 := kr.out.frozen 2;have r3 := kr.out.cell (i := 3) rfl;have f3 := kr.out.frozen 3;have r4 := kr.out.cell (i := 4) rfl;have f4 := kr.out.frozen 4;have r5 := kr.out.cell (i := 5) rfl;have f5 := kr.out.frozen 5
   go_wp2_with fail
   exact bodyPost_ret (v := .tuple #[.agg #[.int .i64 0, .int .i64 0, .int .i64 0, .int .i64 0, .int .i64 0, .int .i64 0], .int .i64 1]) (by simp [results, Tryz.results9, go_sem, r0, r1, r2, r3, r4, r5]) rfl ⟨rfl, (((((HB.out.setCell (by simp <;> omega) _).setCell (by simp <;> omega) _).setCell (by simp <;> omega) _).setCell (by simp <;> omega) _).setCell (by simp <;> omega) _).setCell (by simp <;> omega) _⟩
  | true =>
   rw [hp] at PL;have pl := plB_iff.1 hp;obtain ⟨k, rfl⟩ : ∃ k : Nat, i = (k : Int) := ⟨i.toNat, by omega⟩
   have hk4 : k < n4 := by omega
   rw [show shT true n4 (k : Int) ax = decide (axB ax) from by unfold shT; rw [hp]; rfl, show ((k : Int)).toNat = k from by omega]
   by_cases hax : axB ax
   case neg =>
    rw [decide_eq_false hax, show agE false = 1 from rfl]
    simp only [vF_no]
    unfold axB at hax;clear hm ht hp pl hk4
    by_cases a0 : ax < 0
    ·have d0 : decide (ax < 0) = true := decide_eq_true a0
     clear hax
     go_enter Tryz.func9, Tryz.ntmps9
     go_upto_region 1 with fail
     have hbm := below_new1 w (.cells #[.slice pa1 n1 c1, .slice pa2 n2 c2, .slice pa3 n3 c3, .slice pa4 n4 c4] 26)
     have zm : (w.alloc (.cells #[.slice pa1 n1 c1, .slice pa2 n2 c2, .slice pa3 n3 c3, .slice pa4 n4 c4] 26)).heap.size = w.heap.size + 1 := by simp
     have HB := Lib.hid hbm;have km := Lib.hid (Lok.new w 26 #[.slice pa1 n1 c1, .slice pa2 n2 c2, .slice pa3 n3 c3, .slice pa4 n4 c4]);clear hbm;generalize w.alloc (.cells #[.slice pa1 n1 c1, .slice pa2 n2 c2, .slice pa3 n3 c3, .slice pa4 n4 c4] 26) = Vm at *;have hbr := below_new1 Vm (.cells #[.int .i64 0, .int .i64 0, .int .i64 0, .int .i64 0, .int .i64 0, .int .i64 0] 37);replace km := Lib.hid (km.out.keep hbr)
     have zr : (Vm.alloc (.cells #[.int .i64 0, .int .i64 0, .int .i64 0, .int .i64 0, .int .i64 0, .int .i64 0] 37)).heap.size = Vm.heap.size + 1 := by simp
     replace HB := Lib.hid (HB.out.trans (hbr.mono HB.out.size));have kr := Lib.hid (Lok.new Vm 37 #[.int .i64 0, .int .i64 0, .int .i64 0, .int .i64 0, .int .i64 0, .int .i64 0]);clear hbr;generalize Vm.alloc (.cells #[.int .i64 0, .int .i64 0, .int .i64 0, .int .i64 0, .int .i64 0, .int .i64 0] 37) = Vr at *;rw [zm] at kr zr;clear zm zr;have m0 := km.out.cell (i := 0) rfl;have m1 := km.out.cell (i := 1) rfl;have m2 := km.out.cell (i := 2) rfl;have m3 := km.out.cell (i := 3) rfl
     go_wp2_with fail
     clear m0 m1 m2 m3
     (((with_reducible refine (TA.out _ HB.out).mono ?_); rintro e w1 ⟨rfl, hb1⟩); replace HB := Lib.hid (HB.out.trans (hb1.mono HB.out.size)); replace km := Lib.hid (km.out.keep hb1); replace kr := Lib.hid (kr.out.keep hb1); clear hb1)
     clear TA;have m0 := km.out.cell (i := 0) rfl;have m1 := km.out.cell (i := 1) rfl;have m2 := km.out.cell (i := 2) rfl;have m3 := km.out.cell (i := 3) rfl
     go_wp2_with fail
     clear m0 m1 m2 m3
     (((with_reducible refine (PL.out _).mono ?_); rintro e w2 ⟨rfl, hb2⟩); replace HB := Lib.hid (HB.out.trans (hb2.mono HB.out.size)); replace km := Lib.hid (km.out.keep hb2); replace kr := Lib.hid (kr.out.keep hb2); clear hb2)
     clear PL;clear km;have r0 := kr.out.cell (i := 0) rfl;have f0 := kr.out.frozen 0;have r1 := kr.out.cell (i := 1) rfl;have f1 := kr.out.frozen 1;have r2 := kr.out.cell (i := 2) rfl;have f2 := kr.out.frozen 2;have r3 := kr.out.cell (i := 3) rfl;have f3 := kr.out.frozen 3;have r4 := kr.out.cell (i := 4) rfl;have f4 := kr.out.frozen 4;have r5 := kr.out.cell (i := 5) rfl;have f5 := kr.out.frozen 5
     go_wp2_with fail
     exact bodyPost_ret (v := .tuple #[.agg #[.int .i64 0, .int .i64 0, .int .i64 0, .int .i64 0, .int .i64 0, .int .i64 0], .int .i64 1]) (by simp [results, Tryz.results9, go_sem, r0, r1, r2, r3, r4, r5]) rfl ⟨rfl, (((((HB.out.setCell (by simp <;> omega) _).setCell (by simp <;> omega) _).setCell (by simp <;> omega) _).setCell (by simp <;> omega) _).setCell (by simp <;> omega) _).setCell (by simp <;> omega) _⟩
    ·have d0 : decide (ax < 0) = false := decide_eq_false a0
     have d1 : decide (2 < ax) = true := decide_eq_true (by omega);clear hax a0
     go_enter Tryz.func9, Tryz.ntmps9
     go_upto_region 1 with fail
     have hbm := below_new1 w (.cells #[.slice pa1 n1 c1, .slice pa2 n2 c2, .slice pa3 n3 c3, .slice pa4 n4 c4] 26)
     have zm : (w.alloc (.cells #[.slice pa1 n1 c1, .slice pa2 n2 c2, .slice pa3 n3 c3, .slice pa4 n4 c4] 26)).heap.size = w.heap.size + 1 := by simp
     have HB := Lib.hid hbm;have km := Lib.hid (Lok.new w 26 #[.slice pa1 n1 c1, .slice pa2 n2 c2, .slice pa3 n3 c3, .slice pa4 n4 c4]);clear hbm;generalize w.alloc (.cells #[.slice pa1 n1 c1, .slice pa2 n2 c2, .slice pa3 n3 c3, .slice pa4 n4 c4] 26) = Vm at *;have hbr := below_new1 Vm (.cells #[.int .i64 0, .int .i64 0, .int .i64 0, .int .i64 0, .int .i64 0, .int .i64 0] 37);replace km := Lib.hid (km.out.keep hbr)
     have zr : (Vm.alloc (.cells #[.int .i64 0, .int .i64 0, .int .i64 0, .int .i64 0, .int .i64 0, .int .i64 0] 37)).heap.size = Vm.heap.size + 1 := by simp
     replace HB := Lib.hid (HB.out.trans (hbr.mono HB.out.size));have kr := Lib.hid (Lok.new Vm 37 #[.int .i64 0, .int .i64 0, .int .i64 0, .int .i64 0, .int .i64 0, .int .i64 0]);clear hbr;generalize Vm.alloc (.cells #[.int .i64 0, .int .i64 0, .int .i64 0, .int .i64 0, .int .i64 0, .int .i64 0] 37) = Vr at *;rw [zm] at kr zr;clear zm zr;have m0 := km.out.cell (i := 0) rfl;have m1 := km.out.cell (i := 1) rfl;have m2 := km.out.cell (i := 2) rfl;have m3 := km.out.cell (i := 3) rfl
     go_wp2_with fail
     clear m0 m1 m2 m3
     (((with_reducible refine (TA.out _ HB.out).mono ?_); rintro e w1 ⟨rfl, hb1⟩); replace HB := Lib.hid (HB.out.trans (hb1.mono HB.out.size)); replace km := Lib.hid (km.out.keep hb1); replace kr := Lib.hid (kr.out.keep hb1); clear hb1)
     clear TA;have m0 := km.out.cell (i := 0) rfl;have m1 := km.out.cell (i := 1) rfl;have m2 := km.out.cell (i := 2) rfl;have m3 := km.out.cell (i := 3) rfl
     go_wp2_with fail
     clear m0 m1 m2 m3
     (((with_reducible refine (PL.out _).mono ?_); rintro e w2 ⟨rfl, hb2⟩); replace HB := Lib.hid (HB.out.trans (hb2.mono HB.out.size)); replace km := Lib.hid (km.out.keep hb2); replace kr := Lib.hid (kr.out.keep hb2); clear hb2)
     clear PL;clear km;have r0 := kr.out.cell (i := 0) rfl;have f0 := kr.out.frozen 0;have r1 := kr.out.cell (i := 1) rfl;have f1 := kr.out.frozen 1;have r2 := kr.out.cell (i := 2) rfl;have f2 := kr.out.frozen 2;have r3 := kr.out.cell (i := 3) rfl;have f3 := kr.out.frozen 3;have r4 := kr.out.cell (i := 4) rfl;have f4 := kr.out.frozen 4;have r5 := kr.out.cell (i := 5) rfl;have f5 := kr.out.frozen 5
     go_wp2_with fail
     exact bodyPost_ret (v := .tuple #[.agg #[.int .i64 0, .int .i64 0, .int .i64 0, .int .i64 0, .int .i64 0, .int .i64 0], .int .i64 1]) (by simp [results, Tryz.results9, go_sem, r0, r1, r2, r3, r4, r5]) rfl ⟨rfl, (((((HB.out.setCell (by simp <;> omega) _).setCell (by simp <;> omega) _).setCell (by simp <;> omega) _).setCell (by simp <;> omega) _).setCell (by simp <;> omega) _).setCell (by simp <;> omega) _⟩
   case pos =>
    rw [decide_eq_true hax, show agE true = 0 from rfl]
    simp only [vF_yes]
    have P := Lib.hid (fun W (h : Below w.heap.size w W) => rpoints_any pa1 pa2 pa3 pa4 n1 n2 n3 n4 c1 c2 c3 c4 FV FT FN FC k W (hm.keep h) hk4 (tm_range ht k hk4));have D0 := Lib.hid (fun W => rdrop_any (pp FV FC k 0 0) (pp FV FC k 0 1) (pp FV FC k 0 2) ax W);have D1 := Lib.hid (fun W => rdrop_any (pp FV FC k 1 0) (pp FV FC k 1 1) (pp FV FC k 1 2) ax W);have D2 := Lib.hid (fun W => rdrop_any (pp FV FC k 2 0) (pp FV FC k 2 1) (pp FV FC k 2 2) ax W);unfold dpX dpY dpE at D0 D1 D2
    simp only [if_pos hax] at D0 D1 D2
    unfold shX shY;unfold axB at hax;have d0 : decide (ax < 0) = false := decide_eq_false (by omega);have d1 : decide (2 < ax) = false := decide_eq_false (by omega);clear hm ht hp pl hk4 hax;generalize pp FV FC k 0 0 = p0 at *;generalize pp FV FC k 0 1 = p1 at *;generalize pp FV FC k 0 2 = p2 at *;generalize pp FV FC k 1 0 = p3 at *;generalize pp FV FC k 1 1 = p4 at *;generalize pp FV FC k 1 2 = p5 at *;generalize pp FV FC k 2 0 = p6 at *;generalize pp FV FC k 2 1 = p7 at *;generalize pp FV FC k 2 2 = p8 at *;generalize dX p0 p1 p2 ax.toNat = x0 at *;generalize dY p0 p1 p2 ax.toNat = y0 at *;generalize dX p3 p4 p5 ax.toNat = x1 at *;generalize dY p3 p4 p5 ax.toNat = y1 at *;generalize dX p6 p7 p8 ax.toNat = x2 at *;generalize dY p6 p7 p8 ax.toNat = y2 at *
    go_enter Tryz.func9, Tryz.ntmps9
    go_upto_region 1 with fail
    have hbm := below_new1 w (.cells #[.slice pa1 n1 c1, .slice pa2 n2 c2, .slice pa3 n3 c3, .slice pa4 n4 c4] 26)
    have zm : (w.alloc (.cells #[.slice pa1 n1 c1, .slice pa2 n2 c2, .slice pa3 n3 c3, .slice pa4 n4 c4] 26)).heap.size = w.heap.size + 1 := by simp
    have HB := Lib.hid hbm;have km := Lib.hid (Lok.new w 26 #[.slice pa1 n1 c1, .slice pa2 n2 c2, .slice pa3 n3 c3, .slice pa4 n4 c4]);clear hbm;generalize w.alloc (.cells #[.slice pa1 n1 c1, .slice pa2 n2 c2, .slice pa3 n3 c3, .slice pa4 n4 c4] 26) = Vm at *;have hbr := below_new1 Vm (.cells #[.int .i64 0, .int .i64 0, .int .i64 0, .int .i64 0, .int .i64 0, .int .i64 0] 37);replace km := Lib.hid (km.out.keep hbr)
    have zr : (Vm.alloc (.cells #[.int .i64 0, .int .i64 0, .int .i64 0, .int .i64 0, .int .i64 0, .int .i64 0] 37)).heap.size = Vm.heap.size + 1 := by simp
    replace HB := Lib.hid (HB.out.trans (hbr.mono HB.out.size));have kr := Lib.hid (Lok.new Vm 37 #[.int .i64 0, .int .i64 0, .int .i64 0, .int .i64 0, .int .i64 0, .int .i64 0]);clear hbr;generalize Vm.alloc (.cells #[.int .i64 0, .int .i64 0, .int .i64 0, .int .i64 0, .int .i64 0, .int .i64 0] 37) = Vr at *;rw [zm] at kr zr;clear zm zr;have m0 := km.out.cell (i := 0) rfl;have m1 := km.out.cell (i := 1) rfl;have m2 := km.out.cell (i := 2) rfl;have m3 := km.out.cell (i := 3) rfl
    go_wp2_with fail
    clear m0 m1 m2 m3
    (((with_reducible refine (TA.out _ HB.out).mono ?_); rintro e w1 ⟨rfl, hb1⟩); replace HB := Lib.hid (HB.out.trans (hb1.mono HB.out.size)); replace km := Lib.hid (km.out.keep hb1); replace kr := Lib.hid (kr.out.keep hb1); clear hb1)
    clear TA;have m0 := km.out.cell (i := 0) rfl;have m1 := km.out.cell (i := 1) rfl;have m2 := km.out.cell (i := 2) rfl;have m3 := km.out.cell (i := 3) rfl
    go_wp2_with fail
    clear m0 m1 m2 m3
    (((with_reducible refine (PL.out _).mono ?_); rintro e w2 ⟨rfl, hb2⟩); replace HB := Lib.hid (HB.out.trans (hb2.mono HB.out.size)); replace km := Lib.hid (km.out.keep hb2); replace kr := Lib.hid (kr.out.keep hb2); clear hb2)
    clear PL;have m0 := km.out.cell (i := 0) rfl;have m1 := km.out.cell (i := 1) rfl;have m2 := km.out.cell (i := 2) rfl;have m3 := km.out.cell (i := 3) rfl
    go_wp2_with fail
    clear m0 m1 m2 m3;((with_reducible refine (P.out _ HB.out).mono ?_); rintro e w3 ⟨rfl, hb3⟩);replace HB := Lib.hid (HB.out.trans (hb3.mono HB.out.size));replace kr := Lib.hid (kr.out.keep hb3);clear hb3
    go_upto_region 4 with fail
    have hb3 := below_new1 w3 (.cells #[.int .i64 p0, .int .i64 p1, .int .i64 p2, .int .i64 p3, .int .i64 p4, .int .i64 p5, .int .i64 p6, .int .i64 p7, .int .i64 p8] 58);replace HB := Lib.hid (HB.out.trans (hb3.mono HB.out.size));replace kr := Lib.hid (kr.out.keep hb3);have k3 := Lib.hid (Lok.new w3 58 #[.int .i64 p0, .int .i64 p1, .int .i64 p2, .int .i64 p3, .int .i64 p4, .int .i64 p5, .int .i64 p6, .int .i64 p7, .int .i64 p8]);clear hb3;generalize w3.alloc (.cells #[.int .i64 p0, .int .i64 p1, .int .i64 p2, .int .i64 p3, .int .i64 p4, .int .i64 p5, .int .i64 p6, .int .i64 p7, .int .i64 p8] 58) = V3 at *;generalize w3.heap.size = g3 at *;clear P km;have t0 := k3.out.cell (i := 0) rfl;have t1 := k3.out.cell (i := 1) rfl;have t2 := k3.out.cell (i := 2) rfl
    go_wp2_with fail
    clear t0 t1 t2;((with_reducible refine (D0.out _).mono ?_); rintro e w4 ⟨rfl, hb4⟩);replace HB := Lib.hid (HB.out.trans (hb4.mono HB.out.size));replace kr := Lib.hid (kr.out.keep hb4);replace k3 := Lib.hid (k3.out.keep hb4);clear hb4
    go_upto_region 5 with fail
    have hb4 := below_new1 w4 (.cells #[.int .i64 x0, .int .i64 y0] 36);replace HB := Lib.hid (HB.out.trans (hb4.mono HB.out.size));replace kr := Lib.hid (kr.out.keep hb4);replace k3 := Lib.hid (k3.out.keep hb4);have k4 := Lib.hid (Lok.new w4 36 #[.int .i64 x0, .int .i64 y0]);clear hb4;generalize w4.alloc (.cells #[.int .i64 x0, .int .i64 y0] 36) = V4 at *;generalize w4.heap.size = g4 at *;have t3 := k3.out.cell (i := 3) rfl;have t4 := k3.out.cell (i := 4) rfl;have t5 := k3.out.cell (i := 5) rfl
    go_wp2_with fail
    clear t3 t4 t5;((with_reducible refine (D1.out _).mono ?_); rintro e w5 ⟨rfl, hb5⟩);replace HB := Lib.hid (HB.out.trans (hb5.mono HB.out.size));replace kr := Lib.hid (kr.out.keep hb5);replace k3 := Lib.hid (k3.out.keep hb5);replace k4 := Lib.hid (k4.out.keep hb5);clear hb5
    go_upto_region 6 with fail
    have hb5 := below_new1 w5 (.cells #[.int .i64 x1, .int .i64 y1] 36);replace HB := Lib.hid (HB.out.trans (hb5.mono HB.out.size));replace kr := Lib.hid (kr.out.keep hb5);replace k3 := Lib.hid (k3.out.keep hb5);replace k4 := Lib.hid (k4.out.keep hb5);have k5 := Lib.hid (Lok.new w5 36 #[.int .i64 x1, .int .i64 y1]);clear hb5;generalize w5.alloc (.cells #[.int .i64 x1, .int .i64 y1] 36) = V5 at *;generalize w5.heap.size = g5 at *;have t6 := k3.out.cell (i := 6) rfl;have t7 := k3.out.cell (i := 7) rfl;have t8 := k3.out.cell (i := 8) rfl
    go_wp2_with fail
    clear t6 t7 t8;((with_reducible refine (D2.out _).mono ?_); rintro e w6 ⟨rfl, hb6⟩);replace HB := Lib.hid (HB.out.trans (hb6.mono HB.out.size));replace kr := Lib.hid (kr.out.keep hb6);replace k3 := Lib.hid (k3.out.keep hb6);replace k4 := Lib.hid (k4.out.keep hb6);replace k5 := Lib.hid (k5.out.keep hb6);clear hb6
    go_upto_region 7 with fail
    have hb6 := below_new1 w6 (.cells #[.int .i64 x2, .int .i64 y2] 36);replace HB := Lib.hid (HB.out.trans (hb6.mono HB.out.size));replace kr := Lib.hid (kr.out.keep hb6);replace k3 := Lib.hid (k3.out.keep hb6);replace k4 := Lib.hid (k4.out.keep hb6);replace k5 := Lib.hid (k5.out.keep hb6);have k6 := Lib.hid (Lok.new w6 36 #[.int .i64 x2, .int .i64 y2]);clear hb6;generalize w6.alloc (.cells #[.int .i64 x2, .int .i64 y2] 36) = V6 at *;generalize w6.heap.size = g6 at *;have s0 := k4.out.cell (i := 0) rfl;have s1 := k4.out.cell (i := 1) rfl;have s2 := k5.out.cell (i := 0) rfl;have s3 := k5.out.cell (i := 1) rfl;have s4 := k6.out.cell (i := 0) rfl;have s5 := k6.out.cell (i := 1) rfl;have r0 := kr.out.cell (i := 0) rfl;have f0 := kr.out.frozen 0;have r1 := kr.out.cell (i := 1) rfl;have f1 := kr.out.frozen 1;have r2 := kr.out.cell (i := 2) rfl;have f2 := kr.out.frozen 2;have r3 := kr.out.cell (i := 3) rfl;have f3 := kr.out.frozen 3;have r4 := kr.out.cell (i := 4) rfl;have f4 := kr.out.frozen 4;have r5 := kr.out.cell (i := 5) rfl;have f5 := kr.out.frozen 5
    go_wp2_with fail
    exact bodyPost_ret (v := .tuple #[.agg #[.int .i64 x0, .int .i64 y0, .int .i64 x1, .int .i64 y1, .int .i64 x2, .int .i64 y2], .int .i64 0]) (by simp [results, Tryz.results9, go_sem, r0, r1, r2, r3, r4, r5]) rfl ⟨rfl, (((((HB.out.setCell (by simp <;> omega) _).setCell (by simp <;> omega) _).setCell (by simp <;> omega) _).setCell (by simp <;> omega) _).setCell (by simp <;> omega) _).setCell (by simp <;> omega) _⟩
set_option maxRecDepth 100000 in
set_option maxHeartbeats 8000000 in
theorem rfaces15_any (pa1 pa2 pa3 pa4 : Option Addr) (n1 n2 n3 n4 c1 c2 c3 c4 : Nat) (FV FT FN FC : Nat → Nat → Int) (ax sd : Int) (a : Option Addr) (m c : Nat) (i : Int) (w : World) (hm : MsW w pa1 pa2 pa3 pa4 n1 n2 n3 n4 FV FT FN FC) :
  Calls Tryz.prog 39 #[.agg #[.slice pa1 n1 c1, .slice pa2 n2 c2, .slice pa3 n3 c3, .slice pa4 n4 c4], .agg #[.int .i64 ax, .int .i64 sd, .slice a m c], .int .i64 i] w fun e w' => e = .returned (.bool ((chF (tmB n1 n2 n3 n4 FV FT FN FC) n4 FV FC).fb i ax sd)) ∧ Below w.heap.size w w' := by
 have HB := Lib.hid (Below.refl w.heap.size w);have FA := Lib.hid (fun W (h : Below w.heap.size w W) => rfacing15_any pa1 pa2 pa3 pa4 n1 n2 n3 n4 c1 c2 c3 c4 FV FT FN FC i W (hm.keep h));clear hm;unfold ChF.fb;generalize (chF (tmB n1 n2 n3 n4 FV FT FN FC) n4 FV FC).A i = x at *;generalize (chF (tmB n1 n2 n3 n4 FV FT FN FC) n4 FV FC).S i = y at *;generalize (chF (tmB n1 n2 n3 n4 FV FT FN FC) n4 FV FC).K i = z at *
 cases z with
 | false =>
  rw [Bool.false_and]
  go_enter Tryz.func39, Tryz.ntmps39
  go_upto_region 1 with fail
  have hbm := below_new1 w (.cells #[.slice pa1 n1 c1, .slice pa2 n2 c2, .slice pa3 n3 c3, .slice pa4 n4 c4] 26)
  have zm : (w.alloc (.cells #[.slice pa1 n1 c1, .slice pa2 n2 c2, .slice pa3 n3 c3, .slice pa4 n4 c4] 26)).heap.size = w.heap.size + 1 := by simp
  have HB := Lib.hid hbm;have km := Lib.hid (Lok.new w 26 #[.slice pa1 n1 c1, .slice pa2 n2 c2, .slice pa3 n3 c3, .slice pa4 n4 c4]);clear hbm;generalize w.alloc (.cells #[.slice pa1 n1 c1, .slice pa2 n2 c2, .slice pa3 n3 c3, .slice pa4 n4 c4] 26) = Vm at *;have hbf := below_new1 Vm (.cells #[.int .i64 ax, .int .i64 sd, .slice a m c] 29);replace km := Lib.hid (km.out.keep hbf)
  have zf : (Vm.alloc (.cells #[.int .i64 ax, .int .i64 sd, .slice a m c] 29)).heap.size = Vm.heap.size + 1 := by simp
  replace HB := Lib.hid (HB.out.trans (hbf.mono HB.out.size));have kf := Lib.hid (Lok.new Vm 29 #[.int .i64 ax, .int .i64 sd, .slice a m c]);clear hbf;generalize Vm.alloc (.cells #[.int .i64 ax, .int .i64 sd, .slice a m c] 29) = Vf at *;rw [zm] at kf;clear zm zf;have m0 := km.out.cell (i := 0) rfl;have m1 := km.out.cell (i := 1) rfl;have m2 := km.out.cell (i := 2) rfl;have m3 := km.out.cell (i := 3) rfl
  go_wp2_with fail
  clear m0 m1 m2 m3
  (((with_reducible refine (FA.out _ HB.out).mono ?_); rintro e w1 ⟨rfl, hb1⟩); replace HB := Lib.hid (HB.out.trans (hb1.mono HB.out.size)); replace kf := Lib.hid (kf.out.keep hb1); clear hb1)
  clear FA km;have f0 := kf.out.cell (i := 0) rfl;have f1 := kf.out.cell (i := 1) rfl
  go_wp2
  go_ret
  exact ⟨rfl, HB.out⟩
 | true =>
  rw [Bool.true_and]
  cases hx : (x == ax) with
  | false =>
   rw [Bool.false_and];have nx : ¬ x = ax := beq_eq_false_iff_ne.1 hx
   go_enter Tryz.func39, Tryz.ntmps39
   go_upto_region 1 with fail
   have hbm := below_new1 w (.cells #[.slice pa1 n1 c1, .slice pa2 n2 c2, .slice pa3 n3 c3, .slice pa4 n4 c4] 26)
   have zm : (w.alloc (.cells #[.slice pa1 n1 c1, .slice pa2 n2 c2, .slice pa3 n3 c3, .slice pa4 n4 c4] 26)).heap.size = w.heap.size + 1 := by simp
   have HB := Lib.hid hbm;have km := Lib.hid (Lok.new w 26 #[.slice pa1 n1 c1, .slice pa2 n2 c2, .slice pa3 n3 c3, .slice pa4 n4 c4]);clear hbm;generalize w.alloc (.cells #[.slice pa1 n1 c1, .slice pa2 n2 c2, .slice pa3 n3 c3, .slice pa4 n4 c4] 26) = Vm at *;have hbf := below_new1 Vm (.cells #[.int .i64 ax, .int .i64 sd, .slice a m c] 29);replace km := Lib.hid (km.out.keep hbf)
   have zf : (Vm.alloc (.cells #[.int .i64 ax, .int .i64 sd, .slice a m c] 29)).heap.size = Vm.heap.size + 1 := by simp
   replace HB := Lib.hid (HB.out.trans (hbf.mono HB.out.size));have kf := Lib.hid (Lok.new Vm 29 #[.int .i64 ax, .int .i64 sd, .slice a m c]);clear hbf;generalize Vm.alloc (.cells #[.int .i64 ax, .int .i64 sd, .slice a m c] 29) = Vf at *;rw [zm] at kf;clear zm zf;have m0 := km.out.cell (i := 0) rfl;have m1 := km.out.cell (i := 1) rfl;have m2 := km.out.cell (i := 2) rfl;have m3 := km.out.cell (i := 3) rfl
   go_wp2_with fail
   clear m0 m1 m2 m3
   (((with_reducible refine (FA.out _ HB.out).mono ?_); rintro e w1 ⟨rfl, hb1⟩); replace HB := Lib.hid (HB.out.trans (hb1.mono HB.out.size)); replace kf := Lib.hid (kf.out.keep hb1); clear hb1)
   clear FA km;have f0 := kf.out.cell (i := 0) rfl;have f1 := kf.out.cell (i := 1) rfl
   go_wp2
   go_ret
   exact ⟨rfl, HB.out⟩
  | true =>
   rw [Bool.true_and];have ex : ax = x := (beq_iff_eq.1 hx).symm;subst ex
   cases hy : (y == sd) with
   | false =>
    have ny : ¬ y = sd := beq_eq_false_iff_ne.1 hy
    go_enter Tryz.func39, Tryz.ntmps39
    go_upto_region 1 with fail
    have hbm := below_new1 w (.cells #[.slice pa1 n1 c1, .slice pa2 n2 c2, .slice pa3 n3 c3, .slice pa4 n4 c4] 26)
    have zm : (w.alloc (.cells #[.slice pa1 n1 c1, .slice pa2 n2 c2, .slice pa3 n3 c3, .slice pa4 n4 c4] 26)).heap.size = w.heap.size + 1 := by simp
    have HB := Lib.hid hbm;have km := Lib.hid (Lok.new w 26 #[.slice pa1 n1 c1, .slice pa2 n2 c2, .slice pa3 n3 c3, .slice pa4 n4 c4]);clear hbm;generalize w.alloc (.cells #[.slice pa1 n1 c1, .slice pa2 n2 c2, .slice pa3 n3 c3, .slice pa4 n4 c4] 26) = Vm at *;have hbf := below_new1 Vm (.cells #[.int .i64 ax, .int .i64 sd, .slice a m c] 29);replace km := Lib.hid (km.out.keep hbf)
    have zf : (Vm.alloc (.cells #[.int .i64 ax, .int .i64 sd, .slice a m c] 29)).heap.size = Vm.heap.size + 1 := by simp
    replace HB := Lib.hid (HB.out.trans (hbf.mono HB.out.size));have kf := Lib.hid (Lok.new Vm 29 #[.int .i64 ax, .int .i64 sd, .slice a m c]);clear hbf;generalize Vm.alloc (.cells #[.int .i64 ax, .int .i64 sd, .slice a m c] 29) = Vf at *;rw [zm] at kf;clear zm zf;have m0 := km.out.cell (i := 0) rfl;have m1 := km.out.cell (i := 1) rfl;have m2 := km.out.cell (i := 2) rfl;have m3 := km.out.cell (i := 3) rfl
    go_wp2_with fail
    clear m0 m1 m2 m3
    (((with_reducible refine (FA.out _ HB.out).mono ?_); rintro e w1 ⟨rfl, hb1⟩); replace HB := Lib.hid (HB.out.trans (hb1.mono HB.out.size)); replace kf := Lib.hid (kf.out.keep hb1); clear hb1)
    clear FA km;have f0 := kf.out.cell (i := 0) rfl;have f1 := kf.out.cell (i := 1) rfl
    go_wp2
    go_ret
    exact ⟨rfl, HB.out⟩
   | true =>
    have ey : sd = y := (beq_iff_eq.1 hy).symm;subst ey
    go_enter Tryz.func39, Tryz.ntmps39
    go_upto_region 1 with fail
    have hbm := below_new1 w (.cells #[.slice pa1 n1 c1, .slice pa2 n2 c2, .slice pa3 n3 c3, .slice pa4 n4 c4] 26)
    have zm : (w.alloc (.cells #[.slice pa1 n1 c1, .slice pa2 n2 c2, .slice pa3 n3 c3, .slice pa4 n4 c4] 26)).heap.size = w.heap.size + 1 := by simp
    have HB := Lib.hid hbm;have km := Lib.hid (Lok.new w 26 #[.slice pa1 n1 c1, .slice pa2 n2 c2, .slice pa3 n3 c3, .slice pa4 n4 c4]);clear hbm;generalize w.alloc (.cells #[.slice pa1 n1 c1, .slice pa2 n2 c2, .slice pa3 n3 c3, .slice pa4 n4 c4] 26) = Vm at *;have hbf := below_new1 Vm (.cells #[.int .i64 ax, .int .i64 sd, .slice a m c] 29);replace km := Lib.hid (km.out.keep hbf)
    have zf : (Vm.alloc (.cells #[.int .i64 ax, .int .i64 sd, .slice a m c] 29)).heap.size = Vm.heap.size + 1 := by simp
    replace HB := Lib.hid (HB.out.trans (hbf.mono HB.out.size));have kf := Lib.hid (Lok.new Vm 29 #[.int .i64 ax, .int .i64 sd, .slice a m c]);clear hbf;generalize Vm.alloc (.cells #[.int .i64 ax, .int .i64 sd, .slice a m c] 29) = Vf at *;rw [zm] at kf;clear zm zf;have m0 := km.out.cell (i := 0) rfl;have m1 := km.out.cell (i := 1) rfl;have m2 := km.out.cell (i := 2) rfl;have m3 := km.out.cell (i := 3) rfl
    go_wp2_with fail
    clear m0 m1 m2 m3
    (((with_reducible refine (FA.out _ HB.out).mono ?_); rintro e w1 ⟨rfl, hb1⟩); replace HB := Lib.hid (HB.out.trans (hb1.mono HB.out.size)); replace kf := Lib.hid (kf.out.keep hb1); clear hb1)
    clear FA km;have f0 := kf.out.cell (i := 0) rfl;have f1 := kf.out.cell (i := 1) rfl
    go_wp2
    go_ret
    exact ⟨rfl, HB.out⟩
end Go.Proofs.YtcnbbanpnoigdaaGreat
