import Derived.Test.YtcnbbanpnoigdaaGreatHi
import Derived.Test.YtcnbbanpnoigdaaGreatChCB
import Derived.Test.YtcnbbanpnoigdaaGreatHb
import Derived.OwnWalk
import Derived.BigQuiet
namespace Go.Proofs.YtcnbbanpnoigdaaGreat

theorem tm_small {n1 n2 n3 n4 : Nat} {FV FT FN FC : Nat → Nat → Int} (h : tmB n1 n2 n3 n4 FV FT FN FC = true) {i k j : Nat} (hi : i < n4) (hk : k < 3) (hj : j < 3) : SM 4096 (pp FV FC i k j) := by
 unfold tmB at h;obtain ⟨hv, hm⟩ := Bool.and_eq_true_iff.1 h;unfold msB at hm;rw [Bool.and_eq_true, Bool.and_eq_true, Bool.and_eq_true, Bool.and_eq_true] at hm;have t := (allB_iff _ _).1 hm.2.2.2.2 i hi;have c := (cnB_iff.1 ((allB_iff _ _).1 t k hk)).1;have z := (allB_iff _ _).1 hv (FC i (k * 3)).toNat (by omega);rw [Bool.and_eq_true, Bool.and_eq_true, sB_iff, sB_iff, sB_iff] at z;unfold pp
 rcases show j = 0 ∨ j = 1 ∨ j = 2 by omega with rfl | rfl | rfl
 ·exact z.1
 ·exact z.2.1
 ·exact z.2.2
end Go.Proofs.YtcnbbanpnoigdaaGreat
namespace Go.Proofs.YtcnbbanpnoigdaaGreat
open Go.RowKit

theorem tm_range {n1 n2 n3 n4 : Nat} {FV FT FN FC : Nat → Nat → Int} (h : tmB n1 n2 n3 n4 FV FT FN FC = true) : ∀ i, i < n4 → ∀ j, j = 0 ∨ j = 3 ∨ j = 6 → 0 ≤ FC i j ∧ FC i j < (n1 : Int) := by
 unfold tmB at h;have hr := (Bool.and_eq_true_iff.1 h).2;unfold msB at hr;rw [Bool.and_eq_true, Bool.and_eq_true, Bool.and_eq_true, Bool.and_eq_true] at hr
 intro i hi j hj
 have t := (allB_iff _ _).1 hr.2.2.2.2 i hi;have t2 := fun k (hk : k < 3) => (cnB_iff.1 ((allB_iff _ _).1 t k hk)).1
 rcases hj with rfl | rfl | rfl
 ·exact t2 0 (by omega)
 ·exact t2 1 (by omega)
 ·exact t2 2 (by omega)
theorem sm_more {x : Int} (h : SM 4096 x) : SM 16384 x := by unfold SM at h ⊢; omega
theorem tm_s3 {n1 n2 n3 n4 : Nat} {FV FT FN FC : Nat → Nat → Int} (h : tmB n1 n2 n3 n4 FV FT FN FC = true) {i k : Nat} (hi : i < n4) (hk : k < 3) : s3 (pp FV FC i k 0) (pp FV FC i k 1) (pp FV FC i k 2) = true :=
 s3_iff.2 ⟨sm_more (tm_small h hi hk (by omega)), sm_more (tm_small h hi hk (by omega)), sm_more (tm_small h hi hk (by omega))⟩
def lfA (FV FC : Nat → Nat → Int) (i : Nat) : Int := fcA true (nmA FV FC i) (nmB FV FC i) (nmC FV FC i)
def lfS (FV FC : Nat → Nat → Int) (i : Nat) : Int := fcS true (nmA FV FC i) (nmB FV FC i) (nmC FV FC i)
def lfK (FV FC : Nat → Nat → Int) (i : Nat) : Bool := fcE true (nmA FV FC i) (nmB FV FC i) (nmC FV FC i) == 0
theorem lf_at {n i : Nat} (FV FC : Nat → Nat → Int) (hi : i < n) : (chF true n FV FC).A i = lfA FV FC i ∧ (chF true n FV FC).S i = lfS FV FC i ∧ (chF true n FV FC).K i = lfK FV FC i := by
 have p : plB (i : Int) n = true := plB_iff.2 ⟨by omega, by omega⟩
 refine ⟨?_, ?_, ?_⟩
 ·show vF (true && plB (i : Int) n) _ = _
  rw [p, Bool.true_and, vF_yes]; rfl
 ·show vF (true && plB (i : Int) n) _ = _
  rw [p, Bool.true_and, vF_yes]; rfl
 ·show ((true && plB (i : Int) n) && _) = _
  rw [p, Bool.true_and, Bool.true_and]; rfl
set_option maxRecDepth 100000 in
set_option maxHeartbeats 4000000 in
theorem lfacing_any (pa1 pa2 pa3 pa4 : Option Addr) (n1 n2 n3 n4 c1 c2 c3 c4 : Nat) (FV FT FN FC : Nat → Nat → Int) (gl i : Nat) (w : World) (hm : MsW w pa1 pa2 pa3 pa4 n1 n2 n3 n4 FV FT FN FC) (ht : tmB n1 n2 n3 n4 FV FT FN FC = true) (hi : i < n4) (hk : Lok w gl 50 (mshC pa1 pa2 pa3 pa4 n1 n2 n3 n4 c1 c2 c3 c4)) :
  Calls Tryz.prog 23 #[.pointer (some ⟨gl, 0, none⟩), .int .i64 i] w fun e w' => e = .returned (.agg #[.int .i64 (lfA FV FC i), .int .i64 (lfS FV FC i), .bool (lfK FV FC i)]) ∧ Below w.heap.size w w' := by
 have HB := Lib.hid (Below.refl w.heap.size w);have P := Lib.hid (fun W (h : Below w.heap.size w W) => points_any pa1 pa2 pa3 pa4 n1 n2 n3 n4 c1 c2 c3 c4 FV FT FN FC gl i W (hm.keep h) hi (tm_range ht) (hk.keep h));have F := Lib.hid (fun W => facing_any (pp FV FC i 0 0) (pp FV FC i 0 1) (pp FV FC i 0 2) (pp FV FC i 1 0) (pp FV FC i 1 1) (pp FV FC i 1 2) (pp FV FC i 2 0) (pp FV FC i 2 1) (pp FV FC i 2 2) true (by rw [tm_s3 ht hi (by omega), tm_s3 ht hi (by omega), tm_s3 ht hi (by omega)]; rfl) W);unfold lfA lfS lfK nmA nmB nmC;generalize fcA true _ _ _ = A at *;generalize fcS true _ _ _ = S at *;generalize fcE true _ _ _ = E at *;generalize pp FV FC i 0 0 = p0 at *;generalize pp FV FC i 0 1 = p1 at *;generalize pp FV FC i 0 2 = p2 at *;generalize pp FV FC i 1 0 = p3 at *;generalize pp FV FC i 1 1 = p4 at *;generalize pp FV FC i 1 2 = p5 at *;generalize pp FV FC i 2 0 = p6 at *;generalize pp FV FC i 2 1 = p7 at *;generalize pp FV FC i 2 2 = p8 at *;clear hm ht hk hi
 go_enter Tryz.func23, Tryz.ntmps23
 go_upto_region 1 with fail
 have hbr := below_new1 w (.cells #[.int .i64 0, .int .i64 0, .bool false] 53)
 have zr : (w.alloc (.cells #[.int .i64 0, .int .i64 0, .bool false] 53)).heap.size = w.heap.size + 1 := by simp
 have HB := Lib.hid hbr;have kr := Lib.hid (Lok.new w 53 #[.int .i64 0, .int .i64 0, .bool false]);clear hbr;generalize w.alloc (.cells #[.int .i64 0, .int .i64 0, .bool false] 53) = Vr at *;clear zr
 go_wp2_with fail
 ((with_reducible refine (P.out _ HB.out).mono ?_); rintro e w1 ⟨rfl, hb1⟩);replace HB := Lib.hid (HB.out.trans (hb1.mono HB.out.size));replace kr := Lib.hid (kr.out.keep hb1);clear hb1
 go_upto_region 2 with fail
 have hb1 := below_new1 w1 (.cells #[.int .i64 p0, .int .i64 p1, .int .i64 p2, .int .i64 p3, .int .i64 p4, .int .i64 p5, .int .i64 p6, .int .i64 p7, .int .i64 p8] 58);replace HB := Lib.hid (HB.out.trans (hb1.mono HB.out.size));replace kr := Lib.hid (kr.out.keep hb1);have k1 := Lib.hid (Lok.new w1 58 #[.int .i64 p0, .int .i64 p1, .int .i64 p2, .int .i64 p3, .int .i64 p4, .int .i64 p5, .int .i64 p6, .int .i64 p7, .int .i64 p8]);clear hb1;generalize w1.alloc (.cells #[.int .i64 p0, .int .i64 p1, .int .i64 p2, .int .i64 p3, .int .i64 p4, .int .i64 p5, .int .i64 p6, .int .i64 p7, .int .i64 p8] 58) = V1 at *;generalize w1.heap.size = g1 at *;clear P;have t0 := k1.out.cell (i := 0) rfl;have t1 := k1.out.cell (i := 1) rfl;have t2 := k1.out.cell (i := 2) rfl;have t3 := k1.out.cell (i := 3) rfl;have t4 := k1.out.cell (i := 4) rfl;have t5 := k1.out.cell (i := 5) rfl;have t6 := k1.out.cell (i := 6) rfl;have t7 := k1.out.cell (i := 7) rfl;have t8 := k1.out.cell (i := 8) rfl
 go_wp2_with fail
 clear t0 t1 t2 t3 t4 t5 t6 t7 t8
 (((with_reducible refine (F.out _).mono ?_); rintro e w2 ⟨rfl, hb2⟩); replace HB := Lib.hid (HB.out.trans (hb2.mono HB.out.size)); replace kr := Lib.hid (kr.out.keep hb2); clear hb2)
 clear F;have r0 := kr.out.cell (i := 0) rfl;have r1 := kr.out.cell (i := 1) rfl;have r2 := kr.out.cell (i := 2) rfl;have f0 := kr.out.frozen 0;have f1 := kr.out.frozen 1;have f2 := kr.out.frozen 2
 go_wp2_with fail
 exact bodyPost_ret (v := .agg #[.int .i64 A, .int .i64 S, .bool (E == 0)]) (by simp [results, Tryz.results23, go_sem, r0, r1, r2]) rfl ⟨rfl, ((HB.out.setCell (by simp <;> omega) _).setCell (by simp <;> omega) _).setCell (by simp <;> omega) _⟩
end Go.Proofs.YtcnbbanpnoigdaaGreat
namespace Go.Proofs.YtcnbbanpnoigdaaGreat
open Go.RowKit

theorem lok_apart {W : World} {b g : Nat} {s t : TypeId} {cs ds : Array Value} (h : Lok W b s cs) (k : Lok W g t ds) (ne : ¬ s = t) : ¬ b = g := fun e => by
 subst e;unfold Lok at h k;rw [h] at k
 exact ne (by injection k with k; injection k)
end Go.Proofs.YtcnbbanpnoigdaaGreat
namespace Go.Proofs.YtcnbbanpnoigdaaGreat
open Go.RowKit

def shC (x0 y0 x1 y1 x2 y2 : Int) (k : Nat) : Array Value := if k = 0 then #[.int .i64 0, .int .i64 0, .int .i64 0, .int .i64 0, .int .i64 0, .int .i64 0] else if k = 1 then #[.int .i64 x0, .int .i64 y0, .int .i64 0, .int .i64 0, .int .i64 0, .int .i64 0] else if k = 2 then #[.int .i64 x0, .int .i64 y0, .int .i64 x1, .int .i64 y1, .int .i64 0, .int .i64 0] else #[.int .i64 x0, .int .i64 y0, .int .i64 x1, .int .i64 y1, .int .i64 x2, .int .i64 y2]
set_option maxRecDepth 100000 in
set_option maxHeartbeats 8000000 in
theorem lshadow_any (pa1 pa2 pa3 pa4 : Option Addr) (n1 n2 n3 n4 c1 c2 c3 c4 : Nat) (FV FT FN FC : Nat → Nat → Int) (gl i : Nat) (ax : Int) (w : World) (hm : MsW w pa1 pa2 pa3 pa4 n1 n2 n3 n4 FV FT FN FC) (ht : tmB n1 n2 n3 n4 FV FT FN FC = true) (hi : i < n4) (hk : Lok w gl 50 (mshC pa1 pa2 pa3 pa4 n1 n2 n3 n4 c1 c2 c3 c4)) :
  Calls Tryz.prog 27 #[.pointer (some ⟨gl, 0, none⟩), .int .i64 i, .int .i64 ax] w fun e w' => e = .returned (.tuple #[.agg #[.int .i64 (vF (decide (axB ax)) (shX FV FC ax.toNat i 0)), .int .i64 (vF (decide (axB ax)) (shY FV FC ax.toNat i 0)), .int .i64 (vF (decide (axB ax)) (shX FV FC ax.toNat i 1)), .int .i64 (vF (decide (axB ax)) (shY FV FC ax.toNat i 1)), .int .i64 (vF (decide (axB ax)) (shX FV FC ax.toNat i 2)), .int .i64 (vF (decide (axB ax)) (shY FV FC ax.toNat i 2))], .int .i64 (agE (decide (axB ax)))]) ∧ Below w.heap.size w w' := by
 have HB := Lib.hid (Below.refl w.heap.size w);have P := Lib.hid (fun W (h : Below w.heap.size w W) => points_any pa1 pa2 pa3 pa4 n1 n2 n3 n4 c1 c2 c3 c4 FV FT FN FC gl i W (hm.keep h) hi (tm_range ht) (hk.keep h));have D0 := Lib.hid (fun W => vdrop_any (pp FV FC i 0 0) (pp FV FC i 0 1) (pp FV FC i 0 2) ax W);have D1 := Lib.hid (fun W => vdrop_any (pp FV FC i 1 0) (pp FV FC i 1 1) (pp FV FC i 1 2) ax W);have D2 := Lib.hid (fun W => vdrop_any (pp FV FC i 2 0) (pp FV FC i 2 1) (pp FV FC i 2 2) ax W);clear hm ht hk hi;unfold dpX dpY dpE at D0 D1 D2;unfold shX shY
 by_cases hax : axB ax
 case neg =>
  simp only [if_neg hax] at D0 D1 D2
  rw [decide_eq_false hax, show agE false = 1 from rfl]
  simp only [vF_no]
  clear hax D1 D2;generalize pp FV FC i 0 0 = p0 at *;generalize pp FV FC i 0 1 = p1 at *;generalize pp FV FC i 0 2 = p2 at *;generalize pp FV FC i 1 0 = p3 at *;generalize pp FV FC i 1 1 = p4 at *;generalize pp FV FC i 1 2 = p5 at *;generalize pp FV FC i 2 0 = p6 at *;generalize pp FV FC i 2 1 = p7 at *;generalize pp FV FC i 2 2 = p8 at *
  go_enter Tryz.func27, Tryz.ntmps27
  go_upto_region 2 with fail
  have hbr := below_new1 w (.cells #[.int .i64 0, .int .i64 0, .int .i64 0, .int .i64 0, .int .i64 0, .int .i64 0] 37)
  have zr : (w.alloc (.cells #[.int .i64 0, .int .i64 0, .int .i64 0, .int .i64 0, .int .i64 0, .int .i64 0] 37)).heap.size = w.heap.size + 1 := by simp
  have HB := Lib.hid hbr;have kr := Lib.hid (Lok.new w 37 #[.int .i64 0, .int .i64 0, .int .i64 0, .int .i64 0, .int .i64 0, .int .i64 0]);clear hbr;generalize w.alloc (.cells #[.int .i64 0, .int .i64 0, .int .i64 0, .int .i64 0, .int .i64 0, .int .i64 0] 37) = Vr at *;have hbs := below_new1 Vr (.cells #[.int .i64 0, .int .i64 0, .int .i64 0, .int .i64 0, .int .i64 0, .int .i64 0] 37);replace kr := Lib.hid (kr.out.keep hbs)
  have zs : (Vr.alloc (.cells #[.int .i64 0, .int .i64 0, .int .i64 0, .int .i64 0, .int .i64 0, .int .i64 0] 37)).heap.size = Vr.heap.size + 1 := by simp
  replace HB := Lib.hid (HB.out.trans (hbs.mono HB.out.size));have ks := Lib.hid (Lok.new Vr 37 #[.int .i64 0, .int .i64 0, .int .i64 0, .int .i64 0, .int .i64 0, .int .i64 0]);clear hbs;generalize Vr.alloc (.cells #[.int .i64 0, .int .i64 0, .int .i64 0, .int .i64 0, .int .i64 0, .int .i64 0] 37) = Vs at *;rw [zr] at ks;clear zr zs
  go_wp2_with fail
  (((with_reducible refine (P.out _ HB.out).mono ?_); rintro e w1 ⟨rfl, hb1⟩); replace HB := Lib.hid (HB.out.trans (hb1.mono HB.out.size)); replace kr := Lib.hid (kr.out.keep hb1); replace ks := Lib.hid (ks.out.keep hb1); clear hb1)
  clear P
  have ix : ∀ W, (Instr.index 58 (.agg #[.int .i64 p0, .int .i64 p1, .int .i64 p2, .int .i64 p3, .int .i64 p4, .int .i64 p5, .int .i64 p6, .int .i64 p7, .int .i64 p8]) (.int .i64 0)).run Tryz.prog W = .ok (.agg #[.int .i64 p0, .int .i64 p1, .int .i64 p2]) W := fun _ => by kernel_rfl
  go_wp2_with fail
  go_loopw [16] (fun v wr => v = .int .i64 0 ∧ Lok wr w.heap.size 37 #[.int .i64 0, .int .i64 0, .int .i64 0, .int .i64 0, .int .i64 0, .int .i64 0] ∧ Below w.heap.size w wr) (fun _ _ => 0)
  case atStart => exact ⟨rfl, kr.out, HB.out⟩
  case round =>
   clear kr ks HB;obtain ⟨rfl, hr, hB⟩ := hrel;have kr := Lib.hid hr;have HB := Lib.hid hB;clear hr hB
   go_upto_region 5 with fail
   have hbq := below_new1 wr (.cells #[.int .i64 p0, .int .i64 p1, .int .i64 p2] 57);replace kr := Lib.hid (kr.out.keep hbq);replace HB := Lib.hid (HB.out.trans (hbq.mono HB.out.size));have kq := Lib.hid (Lok.new wr 57 #[.int .i64 p0, .int .i64 p1, .int .i64 p2]);clear hbq;generalize wr.alloc (.cells #[.int .i64 p0, .int .i64 p1, .int .i64 p2] 57) = Vq at *;have t0 := kq.out.cell (i := 0) rfl;have t1 := kq.out.cell (i := 1) rfl;have t2 := kq.out.cell (i := 2) rfl
   go_wp2_with fail
   clear t0 t1 t2;((with_reducible refine (D0.out _).mono ?_); rintro e w2 ⟨rfl, hb2⟩);replace HB := Lib.hid (HB.out.trans (hb2.mono HB.out.size));replace kr := Lib.hid (kr.out.keep hb2);clear hb2
   go_upto_region 6 with fail
   have hb2 := below_new1 w2 (.cells #[.int .i64 0, .int .i64 0] 36);replace HB := Lib.hid (HB.out.trans (hb2.mono HB.out.size));replace kr := Lib.hid (kr.out.keep hb2);have k2 := Lib.hid (Lok.new w2 36 #[.int .i64 0, .int .i64 0]);clear hb2;generalize w2.alloc (.cells #[.int .i64 0, .int .i64 0] 36) = V2 at *;generalize w2.heap.size = g2 at *;have r0 := kr.out.cell (i := 0) rfl;have r1 := kr.out.cell (i := 1) rfl;have r2 := kr.out.cell (i := 2) rfl;have r3 := kr.out.cell (i := 3) rfl;have r4 := kr.out.cell (i := 4) rfl;have r5 := kr.out.cell (i := 5) rfl;have f0 := kr.out.frozen 0;have f1 := kr.out.frozen 1;have f2 := kr.out.frozen 2;have f3 := kr.out.frozen 3;have f4 := kr.out.frozen 4;have f5 := kr.out.frozen 5
   go_wp2_with fail
   exact bodyPost_ret (v := .tuple #[.agg #[.int .i64 0, .int .i64 0, .int .i64 0, .int .i64 0, .int .i64 0, .int .i64 0], .int .i64 1]) (by simp [results, Tryz.results27, go_sem, r0, r1, r2, r3, r4, r5]) rfl ⟨rfl, (((((HB.out.setCell (by simp <;> omega) _).setCell (by simp <;> omega) _).setCell (by simp <;> omega) _).setCell (by simp <;> omega) _).setCell (by simp <;> omega) _).setCell (by simp <;> omega) _⟩
 case pos =>
  simp only [if_pos hax] at D0 D1 D2
  rw [decide_eq_true hax, show agE true = 0 from rfl]
  simp only [vF_yes]
  clear hax;generalize pp FV FC i 0 0 = p0 at *;generalize pp FV FC i 0 1 = p1 at *;generalize pp FV FC i 0 2 = p2 at *;generalize pp FV FC i 1 0 = p3 at *;generalize pp FV FC i 1 1 = p4 at *;generalize pp FV FC i 1 2 = p5 at *;generalize pp FV FC i 2 0 = p6 at *;generalize pp FV FC i 2 1 = p7 at *;generalize pp FV FC i 2 2 = p8 at *;generalize dX p0 p1 p2 ax.toNat = x0 at *;generalize dY p0 p1 p2 ax.toNat = y0 at *;generalize dX p3 p4 p5 ax.toNat = x1 at *;generalize dY p3 p4 p5 ax.toNat = y1 at *;generalize dX p6 p7 p8 ax.toNat = x2 at *;generalize dY p6 p7 p8 ax.toNat = y2 at *
  go_enter Tryz.func27, Tryz.ntmps27
  go_upto_region 2 with fail
  have hbr := below_new1 w (.cells #[.int .i64 0, .int .i64 0, .int .i64 0, .int .i64 0, .int .i64 0, .int .i64 0] 37)
  have zr : (w.alloc (.cells #[.int .i64 0, .int .i64 0, .int .i64 0, .int .i64 0, .int .i64 0, .int .i64 0] 37)).heap.size = w.heap.size + 1 := by simp
  have HB := Lib.hid hbr;have kr := Lib.hid (Lok.new w 37 #[.int .i64 0, .int .i64 0, .int .i64 0, .int .i64 0, .int .i64 0, .int .i64 0]);clear hbr;generalize w.alloc (.cells #[.int .i64 0, .int .i64 0, .int .i64 0, .int .i64 0, .int .i64 0, .int .i64 0] 37) = Vr at *;have hbs := below_new1 Vr (.cells #[.int .i64 0, .int .i64 0, .int .i64 0, .int .i64 0, .int .i64 0, .int .i64 0] 37);replace kr := Lib.hid (kr.out.keep hbs)
  have zs : (Vr.alloc (.cells #[.int .i64 0, .int .i64 0, .int .i64 0, .int .i64 0, .int .i64 0, .int .i64 0] 37)).heap.size = Vr.heap.size + 1 := by simp
  replace HB := Lib.hid (HB.out.trans (hbs.mono HB.out.size));have ks := Lib.hid (Lok.new Vr 37 #[.int .i64 0, .int .i64 0, .int .i64 0, .int .i64 0, .int .i64 0, .int .i64 0]);clear hbs;generalize Vr.alloc (.cells #[.int .i64 0, .int .i64 0, .int .i64 0, .int .i64 0, .int .i64 0, .int .i64 0] 37) = Vs at *;rw [zr] at ks;clear zr zs
  go_wp2_with fail
  (((with_reducible refine (P.out _ HB.out).mono ?_); rintro e w1 ⟨rfl, hb1⟩); replace HB := Lib.hid (HB.out.trans (hb1.mono HB.out.size)); replace kr := Lib.hid (kr.out.keep hb1); replace ks := Lib.hid (ks.out.keep hb1); clear hb1)
  clear P
  go_wp2_with fail
  go_loopw [16] (fun v wr => ∃ k : Nat, v = .int .i64 k ∧ k ≤ 3 ∧ Lok wr w.heap.size 37 #[.int .i64 0, .int .i64 0, .int .i64 0, .int .i64 0, .int .i64 0, .int .i64 0] ∧ Lok wr (w.heap.size + 1) 37 (shC x0 y0 x1 y1 x2 y2 k) ∧ Below w.heap.size w wr) (fun v _ => 3 - (intOf v).toNat)
  case atStart => exact ⟨0, rfl, Nat.zero_le _, kr.out, ks.out, HB.out⟩
  case round =>
   clear kr ks HB;obtain ⟨k, rfl, hk3, hr, hs, hB⟩ := hrel;have kr := Lib.hid hr;have KS := Lib.hid hs;have HB := Lib.hid hB;clear hr hs hB
   rcases show k = 0 ∨ k = 1 ∨ k = 2 ∨ k = 3 by omega with rfl | rfl | rfl | rfl
   ·have ks : Hid (Lok wr (w.heap.size + 1) 37 #[.int .i64 0, .int .i64 0, .int .i64 0, .int .i64 0, .int .i64 0, .int .i64 0]) := KS
    clear KS
    have ix : ∀ W, (Instr.index 58 (.agg #[.int .i64 p0, .int .i64 p1, .int .i64 p2, .int .i64 p3, .int .i64 p4, .int .i64 p5, .int .i64 p6, .int .i64 p7, .int .i64 p8]) (.int .i64 0)).run Tryz.prog W = .ok (.agg #[.int .i64 p0, .int .i64 p1, .int .i64 p2]) W := fun _ => by kernel_rfl
    go_upto_region 5 with fail
    have hbq := below_new1 wr (.cells #[.int .i64 p0, .int .i64 p1, .int .i64 p2] 57);replace kr := Lib.hid (kr.out.keep hbq);replace ks := Lib.hid (ks.out.keep hbq);replace HB := Lib.hid (HB.out.trans (hbq.mono HB.out.size));have kq := Lib.hid (Lok.new wr 57 #[.int .i64 p0, .int .i64 p1, .int .i64 p2]);clear hbq;generalize wr.alloc (.cells #[.int .i64 p0, .int .i64 p1, .int .i64 p2] 57) = Vq at *;have t0 := kq.out.cell (i := 0) rfl;have t1 := kq.out.cell (i := 1) rfl;have t2 := kq.out.cell (i := 2) rfl
    go_wp2_with fail
    clear t0 t1 t2;((with_reducible refine (D0.out _).mono ?_); rintro e w2 ⟨rfl, hb2⟩);replace HB := Lib.hid (HB.out.trans (hb2.mono HB.out.size));replace kr := Lib.hid (kr.out.keep hb2);replace ks := Lib.hid (ks.out.keep hb2);clear hb2
    go_upto_region 8 with fail
    have hb2 := below_new1 w2 (.cells #[.int .i64 x0, .int .i64 y0] 36);replace HB := Lib.hid (HB.out.trans (hb2.mono HB.out.size));replace kr := Lib.hid (kr.out.keep hb2);replace ks := Lib.hid (ks.out.keep hb2);have k2 := Lib.hid (Lok.new w2 36 #[.int .i64 x0, .int .i64 y0]);clear hb2;generalize w2.alloc (.cells #[.int .i64 x0, .int .i64 y0] 36) = V2 at *;generalize w2.heap.size = g2 at *;have t0 := k2.out.cell (i := 0) rfl;have t1 := k2.out.cell (i := 1) rfl;have q0 := ks.out.cell (i := 0) rfl;have q1 := ks.out.cell (i := 1) rfl;have f0 := ks.out.frozen 0;have f1 := ks.out.frozen 1;have hne : w.heap.size + 1 ≠ g2 := lok_apart ks.out k2.out (by decide);have KS2 := Lib.hid ((ks.out.set (i := 0) (v := .int .i64 x0)).set (i := 1) (v := .int .i64 y0));have kr2 := Lib.hid ((kr.out.far (g' := w.heap.size + 1) (i := 0) (v := .int .i64 x0) (by omega)).far (g' := w.heap.size + 1) (i := 1) (v := .int .i64 y0) (by omega));have HB2 := Lib.hid ((HB.out.setCell (p := ⟨w.heap.size + 1, 0, none⟩) (by show w.heap.size ≤ w.heap.size + 1; omega) (.int .i64 x0)).setCell (p := ⟨w.heap.size + 1, 1, none⟩) (by show w.heap.size ≤ w.heap.size + 1; omega) (.int .i64 y0))
    go_wp2
    go_roundw
    case rel => exact ⟨1, by go_num, by omega, kr2.out, KS2.out, HB2.out⟩
    case measure => simp [intOf]
   ·have ks : Hid (Lok wr (w.heap.size + 1) 37 #[.int .i64 x0, .int .i64 y0, .int .i64 0, .int .i64 0, .int .i64 0, .int .i64 0]) := KS
    clear KS
    have ix : ∀ W, (Instr.index 58 (.agg #[.int .i64 p0, .int .i64 p1, .int .i64 p2, .int .i64 p3, .int .i64 p4, .int .i64 p5, .int .i64 p6, .int .i64 p7, .int .i64 p8]) (.int .i64 1)).run Tryz.prog W = .ok (.agg #[.int .i64 p3, .int .i64 p4, .int .i64 p5]) W := fun _ => by kernel_rfl
    go_upto_region 5 with fail
    have hbq := below_new1 wr (.cells #[.int .i64 p3, .int .i64 p4, .int .i64 p5] 57);replace kr := Lib.hid (kr.out.keep hbq);replace ks := Lib.hid (ks.out.keep hbq);replace HB := Lib.hid (HB.out.trans (hbq.mono HB.out.size));have kq := Lib.hid (Lok.new wr 57 #[.int .i64 p3, .int .i64 p4, .int .i64 p5]);clear hbq;generalize wr.alloc (.cells #[.int .i64 p3, .int .i64 p4, .int .i64 p5] 57) = Vq at *;have t0 := kq.out.cell (i := 0) rfl;have t1 := kq.out.cell (i := 1) rfl;have t2 := kq.out.cell (i := 2) rfl
    go_wp2_with fail
    clear t0 t1 t2;((with_reducible refine (D1.out _).mono ?_); rintro e w2 ⟨rfl, hb2⟩);replace HB := Lib.hid (HB.out.trans (hb2.mono HB.out.size));replace kr := Lib.hid (kr.out.keep hb2);replace ks := Lib.hid (ks.out.keep hb2);clear hb2
    go_upto_region 8 with fail
    have hb2 := below_new1 w2 (.cells #[.int .i64 x1, .int .i64 y1] 36);replace HB := Lib.hid (HB.out.trans (hb2.mono HB.out.size));replace kr := Lib.hid (kr.out.keep hb2);replace ks := Lib.hid (ks.out.keep hb2);have k2 := Lib.hid (Lok.new w2 36 #[.int .i64 x1, .int .i64 y1]);clear hb2;generalize w2.alloc (.cells #[.int .i64 x1, .int .i64 y1] 36) = V2 at *;generalize w2.heap.size = g2 at *;have t0 := k2.out.cell (i := 0) rfl;have t1 := k2.out.cell (i := 1) rfl;have q0 := ks.out.cell (i := 2) rfl;have q1 := ks.out.cell (i := 3) rfl;have f0 := ks.out.frozen 2;have f1 := ks.out.frozen 3;have hne : w.heap.size + 1 ≠ g2 := lok_apart ks.out k2.out (by decide);have KS2 := Lib.hid ((ks.out.set (i := 2) (v := .int .i64 x1)).set (i := 3) (v := .int .i64 y1));have kr2 := Lib.hid ((kr.out.far (g' := w.heap.size + 1) (i := 2) (v := .int .i64 x1) (by omega)).far (g' := w.heap.size + 1) (i := 3) (v := .int .i64 y1) (by omega));have HB2 := Lib.hid ((HB.out.setCell (p := ⟨w.heap.size + 1, 2, none⟩) (by show w.heap.size ≤ w.heap.size + 1; omega) (.int .i64 x1)).setCell (p := ⟨w.heap.size + 1, 3, none⟩) (by show w.heap.size ≤ w.heap.size + 1; omega) (.int .i64 y1))
    go_wp2
    go_roundw
    case rel => exact ⟨2, by go_num, by omega, kr2.out, KS2.out, HB2.out⟩
    case measure => simp [intOf]
   ·have ks : Hid (Lok wr (w.heap.size + 1) 37 #[.int .i64 x0, .int .i64 y0, .int .i64 x1, .int .i64 y1, .int .i64 0, .int .i64 0]) := KS
    clear KS
    have ix : ∀ W, (Instr.index 58 (.agg #[.int .i64 p0, .int .i64 p1, .int .i64 p2, .int .i64 p3, .int .i64 p4, .int .i64 p5, .int .i64 p6, .int .i64 p7, .int .i64 p8]) (.int .i64 2)).run Tryz.prog W = .ok (.agg #[.int .i64 p6, .int .i64 p7, .int .i64 p8]) W := fun _ => by kernel_rfl
    go_upto_region 5 with fail
    have hbq := below_new1 wr (.cells #[.int .i64 p6, .int .i64 p7, .int .i64 p8] 57);replace kr := Lib.hid (kr.out.keep hbq);replace ks := Lib.hid (ks.out.keep hbq);replace HB := Lib.hid (HB.out.trans (hbq.mono HB.out.size));have kq := Lib.hid (Lok.new wr 57 #[.int .i64 p6, .int .i64 p7, .int .i64 p8]);clear hbq;generalize wr.alloc (.cells #[.int .i64 p6, .int .i64 p7, .int .i64 p8] 57) = Vq at *;have t0 := kq.out.cell (i := 0) rfl;have t1 := kq.out.cell (i := 1) rfl;have t2 := kq.out.cell (i := 2) rfl
    go_wp2_with fail
    clear t0 t1 t2;((with_reducible refine (D2.out _).mono ?_); rintro e w2 ⟨rfl, hb2⟩);replace HB := Lib.hid (HB.out.trans (hb2.mono HB.out.size));replace kr := Lib.hid (kr.out.keep hb2);replace ks := Lib.hid (ks.out.keep hb2);clear hb2
    go_upto_region 8 with fail
    have hb2 := below_new1 w2 (.cells #[.int .i64 x2, .int .i64 y2] 36);replace HB := Lib.hid (HB.out.trans (hb2.mono HB.out.size));replace kr := Lib.hid (kr.out.keep hb2);replace ks := Lib.hid (ks.out.keep hb2);have k2 := Lib.hid (Lok.new w2 36 #[.int .i64 x2, .int .i64 y2]);clear hb2;generalize w2.alloc (.cells #[.int .i64 x2, .int .i64 y2] 36) = V2 at *;generalize w2.heap.size = g2 at *;have t0 := k2.out.cell (i := 0) rfl;have t1 := k2.out.cell (i := 1) rfl;have q0 := ks.out.cell (i := 4) rfl;have q1 := ks.out.cell (i := 5) rfl;have f0 := ks.out.frozen 4;have f1 := ks.out.frozen 5;have hne : w.heap.size + 1 ≠ g2 := lok_apart ks.out k2.out (by decide);have KS2 := Lib.hid ((ks.out.set (i := 4) (v := .int .i64 x2)).set (i := 5) (v := .int .i64 y2));have kr2 := Lib.hid ((kr.out.far (g' := w.heap.size + 1) (i := 4) (v := .int .i64 x2) (by omega)).far (g' := w.heap.size + 1) (i := 5) (v := .int .i64 y2) (by omega));have HB2 := Lib.hid ((HB.out.setCell (p := ⟨w.heap.size + 1, 4, none⟩) (by show w.heap.size ≤ w.heap.size + 1; omega) (.int .i64 x2)).setCell (p := ⟨w.heap.size + 1, 5, none⟩) (by show w.heap.size ≤ w.heap.size + 1; omega) (.int .i64 y2))
    go_wp2
    go_roundw
    case rel => exact ⟨3, by go_num, by omega, kr2.out, KS2.out, HB2.out⟩
    case measure => simp [intOf]
   ·have ks : Hid (Lok wr (w.heap.size + 1) 37 #[.int .i64 x0, .int .i64 y0, .int .i64 x1, .int .i64 y1, .int .i64 x2, .int .i64 y2]) := KS
    clear KS;have s0 := ks.out.cell (i := 0) rfl;have r0 := kr.out.cell (i := 0) rfl;have f0 := kr.out.frozen 0;have s1 := ks.out.cell (i := 1) rfl;have r1 := kr.out.cell (i := 1) rfl;have f1 := kr.out.frozen 1;have s2 := ks.out.cell (i := 2) rfl;have r2 := kr.out.cell (i := 2) rfl;have f2 := kr.out.frozen 2;have s3 := ks.out.cell (i := 3) rfl;have r3 := kr.out.cell (i := 3) rfl;have f3 := kr.out.frozen 3;have s4 := ks.out.cell (i := 4) rfl;have r4 := kr.out.cell (i := 4) rfl;have f4 := kr.out.frozen 4;have s5 := ks.out.cell (i := 5) rfl;have r5 := kr.out.cell (i := 5) rfl;have f5 := kr.out.frozen 5
    go_wp2_with fail
    exact bodyPost_ret (v := .tuple #[.agg #[.int .i64 x0, .int .i64 y0, .int .i64 x1, .int .i64 y1, .int .i64 x2, .int .i64 y2], .int .i64 0]) (by simp [results, Tryz.results27, go_sem, r0, r1, r2, r3, r4, r5]) rfl ⟨rfl, (((((HB.out.setCell (by simp <;> omega) _).setCell (by simp <;> omega) _).setCell (by simp <;> omega) _).setCell (by simp <;> omega) _).setCell (by simp <;> omega) _).setCell (by simp <;> omega) _⟩
set_option maxRecDepth 100000 in
set_option maxHeartbeats 8000000 in
theorem hide_any (pa1 pa2 pa3 pa4 : Option Addr) (n1 n2 n3 n4 c1 c2 c3 c4 : Nat) (FV FT FN FC : Nat → Nat → Int) (gl i k : Nat) (ax : Int) (w : World) (hm : MsW w pa1 pa2 pa3 pa4 n1 n2 n3 n4 FV FT FN FC) (ht : tmB n1 n2 n3 n4 FV FT FN FC = true) (hi : i < n4) (hj : k < n4) (hax : axB ax) (hk : Lok w gl 50 (mshC pa1 pa2 pa3 pa4 n1 n2 n3 n4 c1 c2 c3 c4)) :
  Calls Tryz.prog 83 #[.pointer (some ⟨gl, 0, none⟩), .int .i64 i, .int .i64 k, .int .i64 ax] w fun e w' => e = .returned (.bool (ovB FV FC ax.toNat i k)) ∧ Below w.heap.size w w' := by
 have HB := Lib.hid (Below.refl w.heap.size w);have SI := Lib.hid (fun W (h : Below w.heap.size w W) => lshadow_any pa1 pa2 pa3 pa4 n1 n2 n3 n4 c1 c2 c3 c4 FV FT FN FC gl i ax W (hm.keep h) ht hi (hk.keep h));have SK := Lib.hid (fun W (h : Below w.heap.size w W) => lshadow_any pa1 pa2 pa3 pa4 n1 n2 n3 n4 c1 c2 c3 c4 FV FT FN FC gl k ax W (hm.keep h) ht hj (hk.keep h));have O := Lib.hid (fun W => overlap_any (shX FV FC ax.toNat i 0) (shY FV FC ax.toNat i 0) (shX FV FC ax.toNat i 1) (shY FV FC ax.toNat i 1) (shX FV FC ax.toNat i 2) (shY FV FC ax.toNat i 2) (shX FV FC ax.toNat k 0) (shY FV FC ax.toNat k 0) (shX FV FC ax.toNat k 1) (shY FV FC ax.toNat k 1) (shX FV FC ax.toNat k 2) (shY FV FC ax.toNat k 2) (shR FV FC ax.toNat i && shR FV FC ax.toNat k) rfl W);rw [decide_eq_true hax, show agE true = 0 from rfl] at SI SK
 simp only [vF_yes] at SI SK
 unfold ovB shM;clear hm ht hi hj hax hk;generalize (shR FV FC ax.toNat i && shR FV FC ax.toNat k) = t at *;generalize mV t _ = m at *;generalize mE t = me at *;generalize shX FV FC ax.toNat i 0 = ax0 at *;generalize shY FV FC ax.toNat i 0 = ay0 at *;generalize shX FV FC ax.toNat i 1 = ax1 at *;generalize shY FV FC ax.toNat i 1 = ay1 at *;generalize shX FV FC ax.toNat i 2 = ax2 at *;generalize shY FV FC ax.toNat i 2 = ay2 at *;generalize shX FV FC ax.toNat k 0 = bx0 at *;generalize shY FV FC ax.toNat k 0 = by0 at *;generalize shX FV FC ax.toNat k 1 = bx1 at *;generalize shY FV FC ax.toNat k 1 = by1 at *;generalize shX FV FC ax.toNat k 2 = bx2 at *;generalize shY FV FC ax.toNat k 2 = by2 at *
 go_enter Tryz.func83, Tryz.ntmps83
 go_wp2_with fail
 ((with_reducible refine (SI.out _ HB.out).mono ?_); rintro e w1 ⟨rfl, hb1⟩);replace HB := Lib.hid (HB.out.trans (hb1.mono HB.out.size));clear hb1
 go_upto_region 2 with fail
 have hb1 := below_new1 w1 (.cells #[.int .i64 ax0, .int .i64 ay0, .int .i64 ax1, .int .i64 ay1, .int .i64 ax2, .int .i64 ay2] 37);replace HB := Lib.hid (HB.out.trans (hb1.mono HB.out.size));have k1 := Lib.hid (Lok.new w1 37 #[.int .i64 ax0, .int .i64 ay0, .int .i64 ax1, .int .i64 ay1, .int .i64 ax2, .int .i64 ay2]);clear hb1;generalize w1.alloc (.cells #[.int .i64 ax0, .int .i64 ay0, .int .i64 ax1, .int .i64 ay1, .int .i64 ax2, .int .i64 ay2] 37) = V1 at *;generalize w1.heap.size = g1 at *
 go_wp2_with fail
 ((with_reducible refine (SK.out _ HB.out).mono ?_); rintro e w2 ⟨rfl, hb2⟩);replace HB := Lib.hid (HB.out.trans (hb2.mono HB.out.size));replace k1 := Lib.hid (k1.out.keep hb2);clear hb2
 go_upto_region 3 with fail
 have hb2 := below_new1 w2 (.cells #[.int .i64 bx0, .int .i64 by0, .int .i64 bx1, .int .i64 by1, .int .i64 bx2, .int .i64 by2] 37);replace HB := Lib.hid (HB.out.trans (hb2.mono HB.out.size));replace k1 := Lib.hid (k1.out.keep hb2);have k2 := Lib.hid (Lok.new w2 37 #[.int .i64 bx0, .int .i64 by0, .int .i64 bx1, .int .i64 by1, .int .i64 bx2, .int .i64 by2]);clear hb2;generalize w2.alloc (.cells #[.int .i64 bx0, .int .i64 by0, .int .i64 bx1, .int .i64 by1, .int .i64 bx2, .int .i64 by2] 37) = V2 at *;generalize w2.heap.size = g2 at *;have a0 := k1.out.cell (i := 0) rfl;have b0 := k2.out.cell (i := 0) rfl;have a1 := k1.out.cell (i := 1) rfl;have b1 := k2.out.cell (i := 1) rfl;have a2 := k1.out.cell (i := 2) rfl;have b2 := k2.out.cell (i := 2) rfl;have a3 := k1.out.cell (i := 3) rfl;have b3 := k2.out.cell (i := 3) rfl;have a4 := k1.out.cell (i := 4) rfl;have b4 := k2.out.cell (i := 4) rfl;have a5 := k1.out.cell (i := 5) rfl;have b5 := k2.out.cell (i := 5) rfl
 go_wp2_with fail
 clear a0 a1 a2 a3 a4 a5 b0 b1 b2 b3 b4 b5
 (((with_reducible refine (O.out _).mono ?_); rintro e w3 ⟨rfl, hb3⟩); replace HB := Lib.hid (HB.out.trans (hb3.mono HB.out.size)); clear hb3)
 go_wp2
 go_ret
 exact ⟨rfl, HB.out⟩
end Go.Proofs.YtcnbbanpnoigdaaGreat
namespace Go.Proofs.YtcnbbanpnoigdaaGreat
open Go.RowKit

theorem chF_out {t : Bool} {n : Nat} {FV FC : Nat → Nat → Int} {i : Int} (h : (t && plB i n) = false) : (chF t n FV FC).A i = 0 ∧ (chF t n FV FC).S i = 0 ∧ (chF t n FV FC).K i = false := by
 refine ⟨?_, ?_, ?_⟩
 ·show vF (t && plB i n) _ = _
  rw [h, vF_no]
 ·show vF (t && plB i n) _ = _
  rw [h, vF_no]
 ·show ((t && plB i n) && _) = _
  rw [h, Bool.false_and]
set_option maxRecDepth 100000 in
set_option maxHeartbeats 8000000 in
theorem facingC_any (pa1 pa2 pa3 pa4 : Option Addr) (n1 n2 n3 n4 c1 c2 c3 c4 : Nat) (FV FT FN FC : Nat → Nat → Int) (i : Int) (w : World) (hm : MsW w pa1 pa2 pa3 pa4 n1 n2 n3 n4 FV FT FN FC) :
  Calls Tryz.prog 6 #[.agg #[.slice pa1 n1 c1, .slice pa2 n2 c2, .slice pa3 n3 c3, .slice pa4 n4 c4], .int .i64 i] w fun e w' => e = .returned (.tuple #[.int .i64 ((chF (tmB n1 n2 n3 n4 FV FT FN FC) n4 FV FC).A i), .int .i64 ((chF (tmB n1 n2 n3 n4 FV FT FN FC) n4 FV FC).S i), .bool ((chF (tmB n1 n2 n3 n4 FV FT FN FC) n4 FV FC).K i)]) ∧ Below w.heap.size w w' := by
 have HB := Lib.hid (Below.refl w.heap.size w);have TA := Lib.hid (fun W (h : Below w.heap.size w W) => tame_any pa1 pa2 pa3 pa4 n1 n2 n3 n4 c1 c2 c3 c4 FV FT FN FC W (hm.keep h))
 cases ht : tmB n1 n2 n3 n4 FV FT FN FC with
 | false =>
  obtain ⟨z1, z2, z3⟩ := chF_out (t := false) (n := n4) (FV := FV) (FC := FC) (i := i) rfl;rw [z1, z2, z3];clear z1 z2 z3;rw [ht] at TA;clear hm ht
  go_enter Tryz.func6, Tryz.ntmps6
  go_upto_region 1 with fail
  have hbm := below_new1 w (.cells #[.slice pa1 n1 c1, .slice pa2 n2 c2, .slice pa3 n3 c3, .slice pa4 n4 c4] 26)
  have zm : (w.alloc (.cells #[.slice pa1 n1 c1, .slice pa2 n2 c2, .slice pa3 n3 c3, .slice pa4 n4 c4] 26)).heap.size = w.heap.size + 1 := by simp
  have HB := Lib.hid hbm;have km := Lib.hid (Lok.new w 26 #[.slice pa1 n1 c1, .slice pa2 n2 c2, .slice pa3 n3 c3, .slice pa4 n4 c4]);clear hbm;generalize w.alloc (.cells #[.slice pa1 n1 c1, .slice pa2 n2 c2, .slice pa3 n3 c3, .slice pa4 n4 c4] 26) = Vm at *;have m0 := km.out.cell (i := 0) rfl;have m1 := km.out.cell (i := 1) rfl;have m2 := km.out.cell (i := 2) rfl;have m3 := km.out.cell (i := 3) rfl
  go_upto_region 2 with fail
  have hbl := below_new1 Vm (.cells #[.slice pa1 n1 c1, .slice pa2 n2 c2, .slice pa3 n3 c3, .slice pa4 n4 c4] 50);replace km := Lib.hid (km.out.keep hbl);replace HB := Lib.hid (HB.out.trans (hbl.mono HB.out.size));have kl := Lib.hid (Lok.new Vm 50 #[.slice pa1 n1 c1, .slice pa2 n2 c2, .slice pa3 n3 c3, .slice pa4 n4 c4]);clear hbl m0 m1 m2 m3;rw [zm] at kl;clear zm;generalize Vm.alloc (.cells #[.slice pa1 n1 c1, .slice pa2 n2 c2, .slice pa3 n3 c3, .slice pa4 n4 c4] 50) = Vl at *;have m0 := km.out.cell (i := 0) rfl;have m1 := km.out.cell (i := 1) rfl;have m2 := km.out.cell (i := 2) rfl;have m3 := km.out.cell (i := 3) rfl
  go_wp2_with fail
  clear m0 m1 m2 m3
  (((with_reducible refine (TA.out _ HB.out).mono ?_); rintro e w1 ⟨rfl, hb1⟩); replace HB := Lib.hid (HB.out.trans (hb1.mono HB.out.size)); replace kl := Lib.hid (kl.out.keep hb1); clear hb1)
  clear TA km;clear kl
  go_wp2
  go_ret3
  exact ⟨rfl, HB.out⟩
 | true =>
  rw [ht] at TA;have HA := Lib.hid (fun gl W (hk : Lok W gl 50 (mshC pa1 pa2 pa3 pa4 n1 n2 n3 n4 c1 c2 c3 c4)) => has_any pa1 pa2 pa3 pa4 n1 n2 n3 n4 c1 c2 c3 c4 gl i W hk)
  cases hp : plB i n4 with
  | false =>
   rw [hp] at HA;obtain ⟨z1, z2, z3⟩ := chF_out (t := true) (n := n4) (FV := FV) (FC := FC) (i := i) (by rw [hp]; rfl);rw [z1, z2, z3];clear z1 z2 z3;clear hm ht hp
   go_enter Tryz.func6, Tryz.ntmps6
   go_upto_region 1 with fail
   have hbm := below_new1 w (.cells #[.slice pa1 n1 c1, .slice pa2 n2 c2, .slice pa3 n3 c3, .slice pa4 n4 c4] 26)
   have zm : (w.alloc (.cells #[.slice pa1 n1 c1, .slice pa2 n2 c2, .slice pa3 n3 c3, .slice pa4 n4 c4] 26)).heap.size = w.heap.size + 1 := by simp
   have HB := Lib.hid hbm;have km := Lib.hid (Lok.new w 26 #[.slice pa1 n1 c1, .slice pa2 n2 c2, .slice pa3 n3 c3, .slice pa4 n4 c4]);clear hbm;generalize w.alloc (.cells #[.slice pa1 n1 c1, .slice pa2 n2 c2, .slice pa3 n3 c3, .slice pa4 n4 c4] 26) = Vm at *;have m0 := km.out.cell (i := 0) rfl;have m1 := km.out.cell (i := 1) rfl;have m2 := km.out.cell (i := 2) rfl;have m3 := km.out.cell (i := 3) rfl
   go_upto_region 2 with fail
   have hbl := below_new1 Vm (.cells #[.slice pa1 n1 c1, .slice pa2 n2 c2, .slice pa3 n3 c3, .slice pa4 n4 c4] 50);replace km := Lib.hid (km.out.keep hbl);replace HB := Lib.hid (HB.out.trans (hbl.mono HB.out.size));have kl := Lib.hid (Lok.new Vm 50 #[.slice pa1 n1 c1, .slice pa2 n2 c2, .slice pa3 n3 c3, .slice pa4 n4 c4]);clear hbl m0 m1 m2 m3;rw [zm] at kl;clear zm;generalize Vm.alloc (.cells #[.slice pa1 n1 c1, .slice pa2 n2 c2, .slice pa3 n3 c3, .slice pa4 n4 c4] 50) = Vl at *;have m0 := km.out.cell (i := 0) rfl;have m1 := km.out.cell (i := 1) rfl;have m2 := km.out.cell (i := 2) rfl;have m3 := km.out.cell (i := 3) rfl
   go_wp2_with fail
   clear m0 m1 m2 m3
   (((with_reducible refine (TA.out _ HB.out).mono ?_); rintro e w1 ⟨rfl, hb1⟩); replace HB := Lib.hid (HB.out.trans (hb1.mono HB.out.size)); replace kl := Lib.hid (kl.out.keep hb1); clear hb1)
   clear TA km
   go_wp2_with fail
   (((with_reducible refine (HA.out _ _ kl.out).mono ?_); rintro e w2 ⟨rfl, hb2⟩); replace HB := Lib.hid (HB.out.trans (hb2.mono HB.out.size)); clear hb2)
   clear HA kl
   go_wp2
   go_ret3
   exact ⟨rfl, HB.out⟩
  | true =>
   rw [hp] at HA;have pl := plB_iff.1 hp;obtain ⟨k, rfl⟩ : ∃ k : Nat, i = (k : Int) := ⟨i.toNat, by omega⟩
   have hk4 : k < n4 := by omega
   obtain ⟨z1, z2, z3⟩ := lf_at FV FC hk4;rw [z1, z2, z3];clear z1 z2 z3;have LF := Lib.hid (fun gl W (h : Below w.heap.size w W) (hk : Lok W gl 50 (mshC pa1 pa2 pa3 pa4 n1 n2 n3 n4 c1 c2 c3 c4)) => lfacing_any pa1 pa2 pa3 pa4 n1 n2 n3 n4 c1 c2 c3 c4 FV FT FN FC gl k W (hm.keep h) ht hk4 hk);clear hm ht hp pl hk4;generalize lfA FV FC k = fa at *;generalize lfS FV FC k = fs at *;generalize lfK FV FC k = fk at *
   go_enter Tryz.func6, Tryz.ntmps6
   go_upto_region 1 with fail
   have hbm := below_new1 w (.cells #[.slice pa1 n1 c1, .slice pa2 n2 c2, .slice pa3 n3 c3, .slice pa4 n4 c4] 26)
   have zm : (w.alloc (.cells #[.slice pa1 n1 c1, .slice pa2 n2 c2, .slice pa3 n3 c3, .slice pa4 n4 c4] 26)).heap.size = w.heap.size + 1 := by simp
   have HB := Lib.hid hbm;have km := Lib.hid (Lok.new w 26 #[.slice pa1 n1 c1, .slice pa2 n2 c2, .slice pa3 n3 c3, .slice pa4 n4 c4]);clear hbm;generalize w.alloc (.cells #[.slice pa1 n1 c1, .slice pa2 n2 c2, .slice pa3 n3 c3, .slice pa4 n4 c4] 26) = Vm at *;have m0 := km.out.cell (i := 0) rfl;have m1 := km.out.cell (i := 1) rfl;have m2 := km.out.cell (i := 2) rfl;have m3 := km.out.cell (i := 3) rfl
   go_upto_region 2 with fail
   have hbl := below_new1 Vm (.cells #[.slice pa1 n1 c1, .slice pa2 n2 c2, .slice pa3 n3 c3, .slice pa4 n4 c4] 50);replace km := Lib.hid (km.out.keep hbl);replace HB := Lib.hid (HB.out.trans (hbl.mono HB.out.size));have kl := Lib.hid (Lok.new Vm 50 #[.slice pa1 n1 c1, .slice pa2 n2 c2, .slice pa3 n3 c3, .slice pa4 n4 c4]);clear hbl m0 m1 m2 m3;rw [zm] at kl;clear zm;generalize Vm.alloc (.cells #[.slice pa1 n1 c1, .slice pa2 n2 c2, .slice pa3 n3 c3, .slice pa4 n4 c4] 50) = Vl at *;have m0 := km.out.cell (i := 0) rfl;have m1 := km.out.cell (i := 1) rfl;have m2 := km.out.cell (i := 2) rfl;have m3 := km.out.cell (i := 3) rfl
   go_wp2_with fail
   clear m0 m1 m2 m3
   (((with_reducible refine (TA.out _ HB.out).mono ?_); rintro e w1 ⟨rfl, hb1⟩); replace HB := Lib.hid (HB.out.trans (hb1.mono HB.out.size)); replace kl := Lib.hid (kl.out.keep hb1); clear hb1)
   clear TA km
   go_wp2_with fail
   (((with_reducible refine (HA.out _ _ kl.out).mono ?_); rintro e w2 ⟨rfl, hb2⟩); replace HB := Lib.hid (HB.out.trans (hb2.mono HB.out.size)); replace kl := Lib.hid (kl.out.keep hb2); clear hb2)
   clear HA
   go_wp2_with fail
   ((with_reducible refine (LF.out _ _ HB.out kl.out).mono ?_); rintro e w3 ⟨rfl, hb3⟩);replace HB := Lib.hid (HB.out.trans (hb3.mono HB.out.size));clear hb3
   go_upto_region 5 with fail
   have hb3 := below_new1 w3 (.cells #[.int .i64 fa, .int .i64 fs, .bool fk] 53);replace HB := Lib.hid (HB.out.trans (hb3.mono HB.out.size));have k3 := Lib.hid (Lok.new w3 53 #[.int .i64 fa, .int .i64 fs, .bool fk]);clear hb3;generalize w3.alloc (.cells #[.int .i64 fa, .int .i64 fs, .bool fk] 53) = V3 at *;generalize w3.heap.size = g3 at *;clear LF;have t0 := k3.out.cell (i := 0) rfl;have t1 := k3.out.cell (i := 1) rfl;have t2 := k3.out.cell (i := 2) rfl
   go_quiet (fail)
   go_wp2
   go_ret3
   exact ⟨rfl, below_drewN HB.out _⟩
set_option maxRecDepth 100000 in
set_option maxHeartbeats 8000000 in
theorem shadowC_any (pa1 pa2 pa3 pa4 : Option Addr) (n1 n2 n3 n4 c1 c2 c3 c4 : Nat) (FV FT FN FC : Nat → Nat → Int) (i : Int) (ax : Int) (w : World) (hm : MsW w pa1 pa2 pa3 pa4 n1 n2 n3 n4 FV FT FN FC) :
  Calls Tryz.prog 8 #[.agg #[.slice pa1 n1 c1, .slice pa2 n2 c2, .slice pa3 n3 c3, .slice pa4 n4 c4], .int .i64 i, .int .i64 ax] w fun e w' => e = .returned (.tuple #[.agg #[.int .i64 (vF (shT (tmB n1 n2 n3 n4 FV FT FN FC) n4 i ax) (shX FV FC ax.toNat i.toNat 0)), .int .i64 (vF (shT (tmB n1 n2 n3 n4 FV FT FN FC) n4 i ax) (shY FV FC ax.toNat i.toNat 0)), .int .i64 (vF (shT (tmB n1 n2 n3 n4 FV FT FN FC) n4 i ax) (shX FV FC ax.toNat i.toNat 1)), .int .i64 (vF (shT (tmB n1 n2 n3 n4 FV FT FN FC) n4 i ax) (shY FV FC ax.toNat i.toNat 1)), .int .i64 (vF (shT (tmB n1 n2 n3 n4 FV FT FN FC) n4 i ax) (shX FV FC ax.toNat i.toNat 2)), .int .i64 (vF (shT (tmB n1 n2 n3 n4 FV FT FN FC) n4 i ax) (shY FV FC ax.toNat i.toNat 2))], .int .i64 (agE (shT (tmB n1 n2 n3 n4 FV FT FN FC) n4 i ax))]) ∧ Below w.heap.size w w' := by
 have HB := Lib.hid (Below.refl w.heap.size w);have TA := Lib.hid (fun W (h : Below w.heap.size w W) => tame_any pa1 pa2 pa3 pa4 n1 n2 n3 n4 c1 c2 c3 c4 FV FT FN FC W (hm.keep h))
 cases ht : tmB n1 n2 n3 n4 FV FT FN FC with
 | false =>
  rw [show shT false n4 i ax = false from rfl, show agE false = 1 from rfl]
  simp only [vF_no]
  rw [ht] at TA;clear hm ht
  go_enter Tryz.func8, Tryz.ntmps8
  go_upto_region 1 with fail
  have hbm := below_new1 w (.cells #[.slice pa1 n1 c1, .slice pa2 n2 c2, .slice pa3 n3 c3, .slice pa4 n4 c4] 26)
  have zm : (w.alloc (.cells #[.slice pa1 n1 c1, .slice pa2 n2 c2, .slice pa3 n3 c3, .slice pa4 n4 c4] 26)).heap.size = w.heap.size + 1 := by simp
  have HB := Lib.hid hbm;have km := Lib.hid (Lok.new w 26 #[.slice pa1 n1 c1, .slice pa2 n2 c2, .slice pa3 n3 c3, .slice pa4 n4 c4]);clear hbm;generalize w.alloc (.cells #[.slice pa1 n1 c1, .slice pa2 n2 c2, .slice pa3 n3 c3, .slice pa4 n4 c4] 26) = Vm at *;have hbr := below_new1 Vm (.cells #[.int .i64 0, .int .i64 0, .int .i64 0, .int .i64 0, .int .i64 0, .int .i64 0] 37);replace km := Lib.hid (km.out.keep hbr)
  have zr : (Vm.alloc (.cells #[.int .i64 0, .int .i64 0, .int .i64 0, .int .i64 0, .int .i64 0, .int .i64 0] 37)).heap.size = Vm.heap.size + 1 := by simp
  replace HB := Lib.hid (HB.out.trans (hbr.mono HB.out.size));have kr := Lib.hid (Lok.new Vm 37 #[.int .i64 0, .int .i64 0, .int .i64 0, .int .i64 0, .int .i64 0, .int .i64 0]);clear hbr;generalize Vm.alloc (.cells #[.int .i64 0, .int .i64 0, .int .i64 0, .int .i64 0, .int .i64 0, .int .i64 0] 37) = Vr at *;rw [zm] at kr zr;clear zm;have m0 := km.out.cell (i := 0) rfl;have m1 := km.out.cell (i := 1) rfl;have m2 := km.out.cell (i := 2) rfl;have m3 := km.out.cell (i := 3) rfl
  go_upto_region 2 with fail
  have hbl := below_new1 Vr (.cells #[.slice pa1 n1 c1, .slice pa2 n2 c2, .slice pa3 n3 c3, .slice pa4 n4 c4] 50);replace km := Lib.hid (km.out.keep hbl);replace kr := Lib.hid (kr.out.keep hbl);replace HB := Lib.hid (HB.out.trans (hbl.mono HB.out.size));have kl := Lib.hid (Lok.new Vr 50 #[.slice pa1 n1 c1, .slice pa2 n2 c2, .slice pa3 n3 c3, .slice pa4 n4 c4]);clear hbl m0 m1 m2 m3;rw [zr] at kl;clear zr;generalize Vr.alloc (.cells #[.slice pa1 n1 c1, .slice pa2 n2 c2, .slice pa3 n3 c3, .slice pa4 n4 c4] 50) = Vl at *;have m0 := km.out.cell (i := 0) rfl;have m1 := km.out.cell (i := 1) rfl;have m2 := km.out.cell (i := 2) rfl;have m3 := km.out.cell (i := 3) rfl
  go_wp2_with fail
  clear m0 m1 m2 m3
  (((with_reducible refine (TA.out _ HB.out).mono ?_); rintro e w1 ⟨rfl, hb1⟩); replace HB := Lib.hid (HB.out.trans (hb1.mono HB.out.size)); replace kr := Lib.hid (kr.out.keep hb1); replace kl := Lib.hid (kl.out.keep hb1); clear hb1)
  clear TA km;clear kl;have r0 := kr.out.cell (i := 0) rfl;have f0 := kr.out.frozen 0;have r1 := kr.out.cell (i := 1) rfl;have f1 := kr.out.frozen 1;have r2 := kr.out.cell (i := 2) rfl;have f2 := kr.out.frozen 2;have r3 := kr.out.cell (i := 3) rfl;have f3 := kr.out.frozen 3;have r4 := kr.out.cell (i := 4) rfl;have f4 := kr.out.frozen 4;have r5 := kr.out.cell (i := 5) rfl;have f5 := kr.out.frozen 5
  go_wp2_with fail
  exact bodyPost_ret (v := .tuple #[.agg #[.int .i64 0, .int .i64 0, .int .i64 0, .int .i64 0, .int .i64 0, .int .i64 0], .int .i64 1]) (by simp [results, Tryz.results8, go_sem, r0, r1, r2, r3, r4, r5]) rfl ⟨rfl, (((((HB.out.setCell (by simp <;> omega) _).setCell (by simp <;> omega) _).setCell (by simp <;> omega) _).setCell (by simp <;> omega) _).setCell (by simp <;> omega) _).setCell (by simp <;> omega) _⟩
 | true =>
  rw [ht] at TA;have HA := Lib.hid (fun gl W (hk : Lok W gl 50 (mshC pa1 pa2 pa3 pa4 n1 n2 n3 n4 c1 c2 c3 c4)) => has_any pa1 pa2 pa3 pa4 n1 n2 n3 n4 c1 c2 c3 c4 gl i W hk)
  cases hp : plB i n4 with
  | false =>
   rw [hp] at HA;rw [show shT true n4 i ax = false from by unfold shT; rw [hp]; rfl, show agE false = 1 from rfl]
   simp only [vF_no]
   clear hm ht hp
   go_enter Tryz.func8, Tryz.ntmps8
   go_upto_region 1 with fail
   have hbm := below_new1 w (.cells #[.slice pa1 n1 c1, .slice pa2 n2 c2, .slice pa3 n3 c3, .slice pa4 n4 c4] 26)
   have zm : (w.alloc (.cells #[.slice pa1 n1 c1, .slice pa2 n2 c2, .slice pa3 n3 c3, .slice pa4 n4 c4] 26)).heap.size = w.heap.size + 1 := by simp
   have HB := Lib.hid hbm;have km := Lib.hid (Lok.new w 26 #[.slice pa1 n1 c1, .slice pa2 n2 c2, .slice pa3 n3 c3, .slice pa4 n4 c4]);clear hbm;generalize w.alloc (.cells #[.slice pa1 n1 c1, .slice pa2 n2 c2, .slice pa3 n3 c3, .slice pa4 n4 c4] 26) = Vm at *;have hbr := below_new1 Vm (.cells #[.int .i64 0, .int .i64 0, .int .i64 0, .int .i64 0, .int .i64 0, .int .i64 0] 37);replace km := Lib.hid (km.out.keep hbr)
   have zr : (Vm.alloc (.cells #[.int .i64 0, .int .i64 0, .int .i64 0, .int .i64 0, .int .i64 0, .int .i64 0] 37)).heap.size = Vm.heap.size + 1 := by simp
   replace HB := Lib.hid (HB.out.trans (hbr.mono HB.out.size));have kr := Lib.hid (Lok.new Vm 37 #[.int .i64 0, .int .i64 0, .int .i64 0, .int .i64 0, .int .i64 0, .int .i64 0]);clear hbr;generalize Vm.alloc (.cells #[.int .i64 0, .int .i64 0, .int .i64 0, .int .i64 0, .int .i64 0, .int .i64 0] 37) = Vr at *;rw [zm] at kr zr;clear zm;have m0 := km.out.cell (i := 0) rfl;have m1 := km.out.cell (i := 1) rfl;have m2 := km.out.cell (i := 2) rfl;have m3 := km.out.cell (i := 3) rfl
   go_upto_region 2 with fail
   have hbl := below_new1 Vr (.cells #[.slice pa1 n1 c1, .slice pa2 n2 c2, .slice pa3 n3 c3, .slice pa4 n4 c4] 50);replace km := Lib.hid (km.out.keep hbl);replace kr := Lib.hid (kr.out.keep hbl);replace HB := Lib.hid (HB.out.trans (hbl.mono HB.out.size));have kl := Lib.hid (Lok.new Vr 50 #[.slice pa1 n1 c1, .slice pa2 n2 c2, .slice pa3 n3 c3, .slice pa4 n4 c4]);clear hbl m0 m1 m2 m3;rw [zr] at kl;clear zr;generalize Vr.alloc (.cells #[.slice pa1 n1 c1, .slice pa2 n2 c2, .slice pa3 n3 c3, .slice pa4 n4 c4] 50) = Vl at *;have m0 := km.out.cell (i := 0) rfl;have m1 := km.out.cell (i := 1) rfl;have m2 := km.out.cell (i := 2) rfl;have m3 := km.out.cell (i := 3) rfl
   go_wp2_with fail
   clear m0 m1 m2 m3
   (((with_reducible refine (TA.out _ HB.out).mono ?_); rintro e w1 ⟨rfl, hb1⟩); replace HB := Lib.hid (HB.out.trans (hb1.mono HB.out.size)); replace kr := Lib.hid (kr.out.keep hb1); replace kl := Lib.hid (kl.out.keep hb1); clear hb1)
   clear TA km
   go_wp2_with fail
   (((with_reducible refine (HA.out _ _ kl.out).mono ?_); rintro e w2 ⟨rfl, hb2⟩); replace HB := Lib.hid (HB.out.trans (hb2.mono HB.out.size)); replace kr := Lib.hid (kr.out.keep hb2); clear hb2)
   clear HA kl;have r0 := kr.out.cell (i := 0) rfl;have f0 := kr.out.frozen 0;have r1 := kr.out.cell (i := 1) rfl;have f1 := kr.out.frozen 1;have r2 := kr.out.cell (i := 2) rfl;have f2 := kr.out.frozen 2;have r3 := kr.out.cell (i := 3) rfl;have f3 := kr.out.frozen 3;have r4 := kr.out.cell (i := 4) rfl;have f4 := kr.out.frozen 4;have r5 := kr.out.cell (i := 5) rfl;have f5 := kr.out.frozen 5
   go_wp2_with fail
   exact bodyPost_ret (v := .tuple #[.agg #[.int .i64 0, .int .i64 0, .int .i64 0, .int .i64 0, .int .i64 0, .int .i64 0], .int .i64 1]) (by simp [results, Tryz.results8, go_sem, r0, r1, r2, r3, r4, r5]) rfl ⟨rfl, (((((HB.out.setCell (by simp <;> omega) _).setCell (by simp <;> omega) _).setCell (by simp <;> omega) _).setCell (by simp <;> omega) _).setCell (by simp <;> omega) _).setCell (by simp <;> omega) _⟩
  | true =>
   rw [hp] at HA;have pl := plB_iff.1 hp;obtain ⟨k, rfl⟩ : ∃ k : Nat, i = (k : Int) := ⟨i.toNat, by omega⟩
   have hk4 : k < n4 := by omega
   rw [show shT true n4 (k : Int) ax = decide (axB ax) from by unfold shT; rw [hp]; rfl, show ((k : Int)).toNat = k from by omega];have SH := Lib.hid (fun gl W (h : Below w.heap.size w W) (hk : Lok W gl 50 (mshC pa1 pa2 pa3 pa4 n1 n2 n3 n4 c1 c2 c3 c4)) => lshadow_any pa1 pa2 pa3 pa4 n1 n2 n3 n4 c1 c2 c3 c4 FV FT FN FC gl k ax W (hm.keep h) ht hk4 hk);clear hm ht hp pl hk4;generalize vF (decide (axB ax)) (shX FV FC ax.toNat k 0) = x0 at *;generalize vF (decide (axB ax)) (shY FV FC ax.toNat k 0) = y0 at *;generalize vF (decide (axB ax)) (shX FV FC ax.toNat k 1) = x1 at *;generalize vF (decide (axB ax)) (shY FV FC ax.toNat k 1) = y1 at *;generalize vF (decide (axB ax)) (shX FV FC ax.toNat k 2) = x2 at *;generalize vF (decide (axB ax)) (shY FV FC ax.toNat k 2) = y2 at *;generalize agE (decide (axB ax)) = ee at *
   go_enter Tryz.func8, Tryz.ntmps8
   go_upto_region 1 with fail
   have hbm := below_new1 w (.cells #[.slice pa1 n1 c1, .slice pa2 n2 c2, .slice pa3 n3 c3, .slice pa4 n4 c4] 26)
   have zm : (w.alloc (.cells #[.slice pa1 n1 c1, .slice pa2 n2 c2, .slice pa3 n3 c3, .slice pa4 n4 c4] 26)).heap.size = w.heap.size + 1 := by simp
   have HB := Lib.hid hbm;have km := Lib.hid (Lok.new w 26 #[.slice pa1 n1 c1, .slice pa2 n2 c2, .slice pa3 n3 c3, .slice pa4 n4 c4]);clear hbm;generalize w.alloc (.cells #[.slice pa1 n1 c1, .slice pa2 n2 c2, .slice pa3 n3 c3, .slice pa4 n4 c4] 26) = Vm at *;have hbr := below_new1 Vm (.cells #[.int .i64 0, .int .i64 0, .int .i64 0, .int .i64 0, .int .i64 0, .int .i64 0] 37);replace km := Lib.hid (km.out.keep hbr)
   have zr : (Vm.alloc (.cells #[.int .i64 0, .int .i64 0, .int .i64 0, .int .i64 0, .int .i64 0, .int .i64 0] 37)).heap.size = Vm.heap.size + 1 := by simp
   replace HB := Lib.hid (HB.out.trans (hbr.mono HB.out.size));have kr := Lib.hid (Lok.new Vm 37 #[.int .i64 0, .int .i64 0, .int .i64 0, .int .i64 0, .int .i64 0, .int .i64 0]);clear hbr;generalize Vm.alloc (.cells #[.int .i64 0, .int .i64 0, .int .i64 0, .int .i64 0, .int .i64 0, .int .i64 0] 37) = Vr at *;rw [zm] at kr zr;clear zm;have m0 := km.out.cell (i := 0) rfl;have m1 := km.out.cell (i := 1) rfl;have m2 := km.out.cell (i := 2) rfl;have m3 := km.out.cell (i := 3) rfl
   go_upto_region 2 with fail
   have hbl := below_new1 Vr (.cells #[.slice pa1 n1 c1, .slice pa2 n2 c2, .slice pa3 n3 c3, .slice pa4 n4 c4] 50);replace km := Lib.hid (km.out.keep hbl);replace kr := Lib.hid (kr.out.keep hbl);replace HB := Lib.hid (HB.out.trans (hbl.mono HB.out.size));have kl := Lib.hid (Lok.new Vr 50 #[.slice pa1 n1 c1, .slice pa2 n2 c2, .slice pa3 n3 c3, .slice pa4 n4 c4]);clear hbl m0 m1 m2 m3;rw [zr] at kl;clear zr;generalize Vr.alloc (.cells #[.slice pa1 n1 c1, .slice pa2 n2 c2, .slice pa3 n3 c3, .slice pa4 n4 c4] 50) = Vl at *;have m0 := km.out.cell (i := 0) rfl;have m1 := km.out.cell (i := 1) rfl;have m2 := km.out.cell (i := 2) rfl;have m3 := km.out.cell (i := 3) rfl
   go_wp2_with fail
   clear m0 m1 m2 m3
   (((with_reducible refine (TA.out _ HB.out).mono ?_); rintro e w1 ⟨rfl, hb1⟩); replace HB := Lib.hid (HB.out.trans (hb1.mono HB.out.size)); replace kr := Lib.hid (kr.out.keep hb1); replace kl := Lib.hid (kl.out.keep hb1); clear hb1)
   clear TA km
   go_wp2_with fail
   (((with_reducible refine (HA.out _ _ kl.out).mono ?_); rintro e w2 ⟨rfl, hb2⟩); replace HB := Lib.hid (HB.out.trans (hb2.mono HB.out.size)); replace kr := Lib.hid (kr.out.keep hb2); replace kl := Lib.hid (kl.out.keep hb2); clear hb2)
   clear HA
   go_wp2_with fail
   (((with_reducible refine (SH.out _ _ HB.out kl.out).mono ?_); rintro e w3 ⟨rfl, hb3⟩); replace HB := Lib.hid (HB.out.trans (hb3.mono HB.out.size)); replace kr := Lib.hid (kr.out.keep hb3); clear hb3)
   clear SH;have r0 := kr.out.cell (i := 0) rfl;have f0 := kr.out.frozen 0;have r1 := kr.out.cell (i := 1) rfl;have f1 := kr.out.frozen 1;have r2 := kr.out.cell (i := 2) rfl;have f2 := kr.out.frozen 2;have r3 := kr.out.cell (i := 3) rfl;have f3 := kr.out.frozen 3;have r4 := kr.out.cell (i := 4) rfl;have f4 := kr.out.frozen 4;have r5 := kr.out.cell (i := 5) rfl;have f5 := kr.out.frozen 5
   go_wp2_with fail
   exact bodyPost_ret (v := .tuple #[.agg #[.int .i64 x0, .int .i64 y0, .int .i64 x1, .int .i64 y1, .int .i64 x2, .int .i64 y2], .int .i64 ee]) (by simp [results, Tryz.results8, go_sem, r0, r1, r2, r3, r4, r5]) rfl ⟨rfl, (((((HB.out.setCell (by simp <;> omega) _).setCell (by simp <;> omega) _).setCell (by simp <;> omega) _).setCell (by simp <;> omega) _).setCell (by simp <;> omega) _).setCell (by simp <;> omega) _⟩
end Go.Proofs.YtcnbbanpnoigdaaGreat
