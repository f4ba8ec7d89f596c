import Derived.Test.YtcnbbanpnoigdaaGreatHm
import Derived.ChangeKeysEq
import Derived.Test.YtcnbbanpnoigdaaGreatHg
import Derived.Lib.MinMax
import Derived.Test.YtcnbbanpnoigdaaGreatShelf
import Derived.Sort.OwnSorted
namespace Go.Proofs.YtcnbbanpnoigdaaGreat
open Go.RowKit

theorem infoIn : ∃ i, Tryz.prog.info? 3 = some i := by
 obtain ⟨i, h, _⟩ := info_parts infoI
 exact ⟨i, h⟩
def e2 (a b c d : Int) : Bool := a == c && b == d
theorem e2_yes {a b c d : Int} (h : a = c) (k : b = d) : e2 a b c d = true := by unfold e2; rw [h, k]; simp
theorem e2_no {a b c d : Int} (h : ¬ (a = c ∧ b = d)) : e2 a b c d = false := by
 unfold e2;rw [Bool.and_eq_false_iff, beq_eq_false_iff_ne, beq_eq_false_iff_ne]
 by_cases q : a = c
 ·exact .inr (fun r => h ⟨q, r⟩)
 ·exact .inl q
theorem cellsIn : Tryz.prog.cellsOf 3 = 1 := by kernel_rfl
set_option maxRecDepth 100000 in
@[go_sem high] theorem eql_side (w : World) (a b c d : Int) : (binOp .eql 121 (.agg #[.int .i64 a, .int .i64 b]) (.agg #[.int .i64 c, .int .i64 d])).run Tryz.prog w = .ok (.bool (e2 a b c d)) w := by
 obtain ⟨i, hi⟩ := infoIn;rw [run_eql_struct, run_equalIn_array w 9999 _ _ Tryz.underlying121 hi, cellsIn];have r : List.range 2 = [0, 1] := rfl;rw [r];unfold e2
 by_cases h1 : a = c
 ·subst h1
  by_cases h2 : b = d
  ·subst h2; simp [Op.eqItems, go_sem]
  ·have q2 : (b == d) = false := by rw [beq_eq_false_iff_ne]; exact h2
   simp [Op.eqItems, go_sem, q2]
 ·have q1 : (a == c) = false := by rw [beq_eq_false_iff_ne]; exact h1
  simp [Op.eqItems, go_sem, q1]
set_option maxRecDepth 100000 in
set_option maxHeartbeats 8000000 in
theorem index_any (a : Option Addr) (n c : Nat) (L : List (Int × Int)) (p q : Int) (w : World) (hl : RowP w a n L) (hn : n ≤ 1000) :
  Calls Tryz.prog 122 #[.slice a n c, .agg #[.int .i64 p, .int .i64 q]] w fun e w' => (∃ r : Int, e = .returned (.int .i64 r) ∧ (0 ≤ r ↔ (p, q) ∈ L)) ∧ Below w.heap.size w w' := by
 have HB := Lib.hid (Below.refl w.heap.size w);have R := Lib.hid hl;have hln := Lib.hid hl.1;clear hl
 go_enter Tryz.func122, Tryz.ntmps122
 go_upto_region 1 with fail
 have hby := below_new1 w (.cells #[.int .i64 p, .int .i64 q] 121)
 have zy : (w.alloc (.cells #[.int .i64 p, .int .i64 q] 121)).heap.size = w.heap.size + 1 := by simp
 have HB := Lib.hid hby;have ky := Lib.hid (Lok.new w 121 #[.int .i64 p, .int .i64 q]);clear hby;generalize w.alloc (.cells #[.int .i64 p, .int .i64 q] 121) = Vy at *;clear zy;have HB0 := HB;have ky0 := ky;clear HB ky
 go_wp2_with fail
 go_loopw [8] (fun x wr => ∃ k : Nat, x = .int .i64 k ∧ k ≤ n ∧ (∀ j, j < k → L[j]? ≠ some (p, q)) ∧ Below Vy.heap.size Vy wr) (fun x _ => n - (intOf x).toNat)
 case atStart => exact ⟨0, rfl, Nat.zero_le _, fun j h => absurd h (by omega), Below.refl _ _⟩
 case round =>
  obtain ⟨k, rfl, hk, hN, hB⟩ := hrel;have HB := Lib.hid (HB0.out.trans (hB.mono HB0.out.size));have BV := Lib.hid hB;have ky := Lib.hid (ky0.out.keep hB);have HN := Lib.hid hN;clear hB hN
  by_cases hlt : k < n
  ·obtain ⟨b, o, x, y, rfl, hb, hL, hx, hy⟩ := (R.out.keep HB.out).at hlt
   have HL := Lib.hid hL;clear hL;have y0 := ky.out.cell (i := 0) rfl;have y1 := ky.out.cell (i := 1) rfl
   have i0 : (0 : Int) ≤ (k : Int) := by omega
   have i1 : (k : Int) < (n : Int) := by omega
   have i2 : ((k : Int)).toNat = k := by omega
   go_upto_region 4 with fail
   by_cases e : p = x ∧ q = y
   ·have E : Hid ((0 : Int) ≤ (k : Int) ↔ (p, q) ∈ L) := Lib.hid ⟨fun _ => by rw [e.1, e.2]; exact List.mem_of_getElem? HL.out, fun _ => i0⟩
    have ee := e2_yes e.1 e.2;clear e
    go_quiet (fail)
    go_wp2
    go_ret
    exact ⟨⟨_, rfl, E.out⟩, below_drewN HB.out _⟩
   ·have E : Hid (∀ j, j < k + 1 → L[j]? ≠ some (p, q)) := Lib.hid (fun j hj => by
     by_cases s : j = k
     ·rw [s, HL.out]
      intro z
      cases z
      exact e ⟨rfl, rfl⟩
     ·exact HN.out j (by omega))
    have ee := e2_no e;clear e
    go_quiet (fail)
    go_wp2
    go_roundw
    case rel => exact ⟨k + 1, by go_num, hlt, E.out, below_drewN BV.out _⟩
    case measure => simp [intOf]; omega
  ·obtain rfl : k = n := by omega
   have E : Hid ((0 : Int) ≤ -1 ↔ (p, q) ∈ L) := Lib.hid ⟨fun h => absurd h (by omega), fun h => by
    obtain ⟨j, hj⟩ := List.getElem?_of_mem h
    refine absurd hj (HN.out j ?_)
    have := (List.getElem?_eq_some_iff.1 hj).1;have := hln.out
    omega⟩
   go_wp2
   go_ret
   exact ⟨⟨_, rfl, E.out⟩, HB.out⟩
set_option maxRecDepth 100000 in
set_option maxHeartbeats 8000000 in
theorem contains_any (a : Option Addr) (n c : Nat) (L : List (Int × Int)) (p q : Int) (w : World) (hl : RowP w a n L) (hn : n ≤ 1000) :
  Calls Tryz.prog 109 #[.slice a n c, .agg #[.int .i64 p, .int .i64 q]] w fun e w' => e = .returned (.bool (decide ((p, q) ∈ L))) ∧ Below w.heap.size w w' := by
 have HB := Lib.hid (Below.refl w.heap.size w);have R := Lib.hid hl;clear hl
 go_enter Tryz.func109, Tryz.ntmps109
 go_upto_region 1 with fail
 have hby := below_new1 w (.cells #[.int .i64 p, .int .i64 q] 121)
 have zy : (w.alloc (.cells #[.int .i64 p, .int .i64 q] 121)).heap.size = w.heap.size + 1 := by simp
 have HB := Lib.hid hby;have ky := Lib.hid (Lok.new w 121 #[.int .i64 p, .int .i64 q]);clear hby;generalize w.alloc (.cells #[.int .i64 p, .int .i64 q] 121) = Vy at *;clear zy;have y0 := ky.out.cell (i := 0) rfl;have y1 := ky.out.cell (i := 1) rfl
 go_wp2_with fail
 ((with_reducible refine (index_any a n c L p q Vy (R.out.keep HB.out) hn).mono ?_); rintro e w5 ⟨⟨r, rfl, hr⟩, hb5⟩);replace HB := Lib.hid (HB.out.trans (hb5.mono HB.out.size));have E : Hid (decide (r ≥ 0) = decide ((p, q) ∈ L)) := Lib.hid (decide_eq_decide.2 hr);clear y0 y1 hb5 hr
 go_wp2
 go_ret
 exact ⟨by rw [E.out]; rfl, HB.out⟩
end Go.Proofs.YtcnbbanpnoigdaaGreat
namespace Go.Proofs.YtcnbbanpnoigdaaGreat
open Go.RowKit

set_option maxRecDepth 100000 in
set_option maxHeartbeats 8000000 in
theorem sides_any (x tx ux y ty uy z tz uz : Int) (w : World) :
  Calls Tryz.prog 97 #[.agg #[.int .i64 x, .int .i64 tx, .int .i64 ux, .int .i64 y, .int .i64 ty, .int .i64 uy, .int .i64 z, .int .i64 tz, .int .i64 uz]] w fun e w' => (∃ v, e = .returned v ∧ OwnP w' w.heap.size v (sdL x y z)) ∧ Below w.heap.size w w' := by
 have HB := Lib.hid (Below.refl w.heap.size w);obtain ⟨L0, hL0⟩ : ∃ L : List (Int × Int), L = [] := ⟨_, rfl⟩;obtain ⟨L1, hL1⟩ : ∃ L, L = sdA L0 x y := ⟨_, rfl⟩;obtain ⟨L2, hL2⟩ : ∃ L, L = sdA L1 y z := ⟨_, rfl⟩;obtain ⟨L3, hL3⟩ : ∃ L, L = sdA L2 z x := ⟨_, rfl⟩
 have hl0 : L0.length ≤ 0 := by rw [hL0]; exact Nat.le_refl _
 have hl1 : L1.length ≤ 1 := by have := sdA_len L0 x y; rw [hL1]; omega
 have hl2 : L2.length ≤ 2 := by have := sdA_len L1 y z; rw [hL2]; omega
 have E3 : Hid (sdL x y z = L3) := Lib.hid (by rw [hL3, hL2, hL1, hL0]; rfl);replace hL0 := Lib.hid hL0;replace hL1 := Lib.hid hL1;replace hL2 := Lib.hid hL2;replace hL3 := Lib.hid hL3
 have ix0 : ∀ W, (Instr.index 88 (.agg #[.int .i64 x, .int .i64 tx, .int .i64 ux, .int .i64 y, .int .i64 ty, .int .i64 uy, .int .i64 z, .int .i64 tz, .int .i64 uz]) (.int .i64 0)).run Tryz.prog W = .ok (.agg #[.int .i64 x, .int .i64 tx, .int .i64 ux]) W := fun _ => by kernel_rfl
 have ix1 : ∀ W, (Instr.index 88 (.agg #[.int .i64 x, .int .i64 tx, .int .i64 ux, .int .i64 y, .int .i64 ty, .int .i64 uy, .int .i64 z, .int .i64 tz, .int .i64 uz]) (.int .i64 1)).run Tryz.prog W = .ok (.agg #[.int .i64 y, .int .i64 ty, .int .i64 uy]) W := fun _ => by kernel_rfl
 have ix2 : ∀ W, (Instr.index 88 (.agg #[.int .i64 x, .int .i64 tx, .int .i64 ux, .int .i64 y, .int .i64 ty, .int .i64 uy, .int .i64 z, .int .i64 tz, .int .i64 uz]) (.int .i64 2)).run Tryz.prog W = .ok (.agg #[.int .i64 z, .int .i64 tz, .int .i64 uz]) W := fun _ => by kernel_rfl
 go_enter Tryz.func97, Tryz.ntmps97
 go_upto_region 1 with fail
 have hbt := below_new1 w (.cells #[.int .i64 x, .int .i64 tx, .int .i64 ux, .int .i64 y, .int .i64 ty, .int .i64 uy, .int .i64 z, .int .i64 tz, .int .i64 uz] 88)
 have zt : (w.alloc (.cells #[.int .i64 x, .int .i64 tx, .int .i64 ux, .int .i64 y, .int .i64 ty, .int .i64 uy, .int .i64 z, .int .i64 tz, .int .i64 uz] 88)).heap.size = w.heap.size + 1 := by simp
 have HB := Lib.hid hbt;have kt := Lib.hid (Lok.new w 88 #[.int .i64 x, .int .i64 tx, .int .i64 ux, .int .i64 y, .int .i64 ty, .int .i64 uy, .int .i64 z, .int .i64 tz, .int .i64 uz]);clear hbt;generalize w.alloc (.cells #[.int .i64 x, .int .i64 tx, .int .i64 ux, .int .i64 y, .int .i64 ty, .int .i64 uy, .int .i64 z, .int .i64 tz, .int .i64 uz] 88) = Vt at *;clear zt;have htl : w.heap.size < Vt.heap.size := kt.out.lt;have HB0 := HB;have kt0 := kt;have t0 := kt.out.cell (i := 0) rfl;have t1 := kt.out.cell (i := 1) rfl;have t2 := kt.out.cell (i := 2) rfl;have t3 := kt.out.cell (i := 3) rfl;have t4 := kt.out.cell (i := 4) rfl;have t5 := kt.out.cell (i := 5) rfl;have t6 := kt.out.cell (i := 6) rfl;have t7 := kt.out.cell (i := 7) rfl;have t8 := kt.out.cell (i := 8) rfl
 go_wp2_with fail
 clear t0 t1 t2 t3 t4 t5 t6 t7 t8 HB kt
 go_loopw [3, 9] (fun v x' wr => ((x' = .int .i64 0 ∧ OwnP wr Vt.heap.size v L0) ∨ (x' = .int .i64 1 ∧ OwnP wr Vt.heap.size v L1) ∨ (x' = .int .i64 2 ∧ OwnP wr Vt.heap.size v L2) ∨ (x' = .int .i64 3 ∧ OwnP wr Vt.heap.size v L3)) ∧ Below Vt.heap.size Vt wr) (fun _ x' _ => 3 - (intOf x').toNat)
 case atStart => exact ⟨.inl ⟨rfl, by rw [hL0.out]; exact OwnP.nil _ _⟩, Below.refl _ _⟩
 case round =>
  obtain ⟨hR, hB⟩ := hrel;have HB := Lib.hid (HB0.out.trans (hB.mono HB0.out.size));have BV := Lib.hid hB;have kt := Lib.hid (kt0.out.keep hB);have hyw : w.heap.size < wr.heap.size := kt.out.lt;clear hB
  rcases hR with ⟨rfl, hO⟩ | ⟨rfl, hO⟩ | ⟨rfl, hO⟩ | ⟨rfl, hO⟩
  ·have OW := Lib.hid hO
   clear hO;have t0 := kt.out.cell (i := 0) rfl;have t1 := kt.out.cell (i := 1) rfl;have t2 := kt.out.cell (i := 2) rfl;have t3 := kt.out.cell (i := 3) rfl;have t4 := kt.out.cell (i := 4) rfl;have t5 := kt.out.cell (i := 5) rfl;have t6 := kt.out.cell (i := 6) rfl;have t7 := kt.out.cell (i := 7) rfl;have t8 := kt.out.cell (i := 8) rfl
   go_upto_region 5 with fail
   have hbf := Lib.hid ((Below.refl Vt.heap.size wr).alloc BV.out.size (.cells #[.int .i64 x, .int .i64 tx, .int .i64 ux] 87));replace BV := Lib.hid (BV.out.trans hbf.out);clear hbf;have hbf := below_new1 wr (.cells #[.int .i64 x, .int .i64 tx, .int .i64 ux] 87);replace kt := Lib.hid (kt.out.keep hbf);replace OW := Lib.hid (OW.out.keep hbf)
   have zf : (wr.alloc (.cells #[.int .i64 x, .int .i64 tx, .int .i64 ux] 87)).heap.size = wr.heap.size + 1 := by simp
   replace HB := Lib.hid (HB.out.trans (hbf.mono HB.out.size));have kf := Lib.hid (Lok.new wr 87 #[.int .i64 x, .int .i64 tx, .int .i64 ux]);clear hbf;generalize wr.alloc (.cells #[.int .i64 x, .int .i64 tx, .int .i64 ux] 87) = Vf at *;clear zf t0 t1 t2 t3 t4 t5 t6 t7 t8;generalize wr.heap.size = gf at *;have t0 := kt.out.cell (i := 0) rfl;have t1 := kt.out.cell (i := 1) rfl;have t2 := kt.out.cell (i := 2) rfl;have t3 := kt.out.cell (i := 3) rfl;have t4 := kt.out.cell (i := 4) rfl;have t5 := kt.out.cell (i := 5) rfl;have t6 := kt.out.cell (i := 6) rfl;have t7 := kt.out.cell (i := 7) rfl;have t8 := kt.out.cell (i := 8) rfl
   go_upto_region 6 with fail
   have hbg := Lib.hid ((Below.refl Vt.heap.size Vf).alloc BV.out.size (.cells #[.int .i64 y, .int .i64 ty, .int .i64 uy] 87));replace BV := Lib.hid (BV.out.trans hbg.out);clear hbg;have hbg := below_new1 Vf (.cells #[.int .i64 y, .int .i64 ty, .int .i64 uy] 87);replace kt := Lib.hid (kt.out.keep hbg);replace kf := Lib.hid (kf.out.keep hbg);replace OW := Lib.hid (OW.out.keep hbg)
   have zg : (Vf.alloc (.cells #[.int .i64 y, .int .i64 ty, .int .i64 uy] 87)).heap.size = Vf.heap.size + 1 := by simp
   replace HB := Lib.hid (HB.out.trans (hbg.mono HB.out.size));have kg := Lib.hid (Lok.new Vf 87 #[.int .i64 y, .int .i64 ty, .int .i64 uy]);clear hbg;generalize Vf.alloc (.cells #[.int .i64 y, .int .i64 ty, .int .i64 uy] 87) = Vg at *;clear zg t0 t1 t2 t3 t4 t5 t6 t7 t8;generalize Vf.heap.size = gg at *;have f0 := kf.out.cell (i := 0) rfl;have g0 := kg.out.cell (i := 0) rfl
   go_upto_region 7 with fail
   have hbh := Lib.hid ((Below.refl Vt.heap.size Vg).alloc BV.out.size (.cells #[.int .i64 (min x y), .int .i64 (max x y)] 121));replace BV := Lib.hid (BV.out.trans hbh.out);clear hbh;have hbh := below_new1 Vg (.cells #[.int .i64 (min x y), .int .i64 (max x y)] 121);replace kt := Lib.hid (kt.out.keep hbh);replace kf := Lib.hid (kf.out.keep hbh);replace kg := Lib.hid (kg.out.keep hbh);replace OW := Lib.hid (OW.out.keep hbh)
   have zh : (Vg.alloc (.cells #[.int .i64 (min x y), .int .i64 (max x y)] 121)).heap.size = Vg.heap.size + 1 := by simp
   replace HB := Lib.hid (HB.out.trans (hbh.mono HB.out.size));have kh := Lib.hid (Lok.new Vg 121 #[.int .i64 (min x y), .int .i64 (max x y)]);clear hbh;generalize Vg.alloc (.cells #[.int .i64 (min x y), .int .i64 (max x y)] 121) = Vh at *;clear zh f0 g0;generalize Vg.heap.size = gh at *;have f0 := kf.out.cell (i := 0) rfl;have g0 := kg.out.cell (i := 0) rfl;have h0 := kh.out.cell (i := 0) rfl;have h1 := kh.out.cell (i := 1) rfl
   by_cases e : x = y
   ·have ne : (x != y) = false := by rw [bne_eq_false_iff_eq]; exact e
    have E := Lib.hid (hL1.out.trans (sdA_same e));have ee := Lib.hid e;clear e
    go_wp2
    go_roundw
    case rel => exact ⟨.inr (.inl ⟨by go_num, by rw [E.out]; exact OW.out⟩), BV.out⟩
    case measure => simp [intOf]
   ·have ne : (x != y) = true := by rw [bne_iff_ne]; exact e
    obtain ⟨aL, cL, rfl, hn1, hn2, hn3, hR⟩ := rowP_of_own OW.out;have C := Lib.hid (contains_any aL _ cL _ (min x y) (max x y) Vh hR (by first | omega | (simp only [List.length_nil]; omega)));clear hn1 hn2 hn3 hR
    by_cases hc : (min x y, max x y) ∈ L0
    ·have hd : decide ((min x y, max x y) ∈ L0) = true := decide_eq_true hc
     have E := Lib.hid (hL1.out.trans (sdA_there hc));rw [hd] at C;clear hc hd
     go_wp2_with fail
     ((with_reducible refine C.out.mono ?_); rintro e' w5 ⟨rfl, hb5⟩);replace BV := Lib.hid (BV.out.trans (hb5.mono BV.out.size));replace OW := Lib.hid (OW.out.keep hb5);clear hb5 C
     go_wp2
     go_roundw
     case rel => exact ⟨.inr (.inl ⟨by go_num, by rw [E.out]; exact OW.out⟩), BV.out⟩
     case measure => simp [intOf]
    ·have hd : decide ((min x y, max x y) ∈ L0) = false := decide_eq_false hc
     have E := Lib.hid (hL1.out.trans (sdA_yes e hc));rw [hd] at C;clear hc hd;have ee := Lib.hid e;clear e f0 g0 h0 h1;have f0 := kf.out.cell (i := 0) rfl;have g0 := kg.out.cell (i := 0) rfl;have h0 := kh.out.cell (i := 0) rfl;have h1 := kh.out.cell (i := 1) rfl
     go_wp2_with fail
     ((with_reducible refine C.out.mono ?_); rintro e' w5 ⟨rfl, hb5⟩);replace BV := Lib.hid (BV.out.trans (hb5.mono BV.out.size));replace HB := Lib.hid (HB0.out.trans (BV.out.mono HB0.out.size));replace OW := Lib.hid (OW.out.keep hb5);replace kh := Lib.hid (kh.out.keep hb5);clear hb5 C f0 g0 h0 h1;generalize Value.slice aL (L0).length cL = v3 at OW ⊢;have h0 := kh.out.cell (i := 0) rfl;have h1 := kh.out.cell (i := 1) rfl;have hO := OW.out;have hbs := BV.out.size;have q1 : Hid ((L0.length + 1) * 16 ≤ 140737488355328) := Lib.hid (by omega);have q2 : Hid (L0.length ≤ 1000000) := Lib.hid (by omega);have q3 : Hid (∀ u ∈ [Value.int .i64 (min x y), .int .i64 (max x y)], u.oneCell' = true) := Lib.hid (by intro u hu; simp only [List.mem_cons, List.not_mem_nil, or_false] at hu; rcases hu with rfl | rfl <;> rfl)
     go_wp2_with (at_builtin; refine app_one rfl _ _ 133 121 (.agg #[.int .i64 0, .int .i64 0]) 2 16 Tryz.underlying133 infoP rfl (by decide) rfl Vt.heap.size v3 L0.length (valsK L0.length 2 (pF L0)) [.int .i64 (min x y), .int .i64 (max x y)] rfl q3.out rfl hO rfl q1.out q2.out hbs ?_)
     intro v6 w6 hO6 hb6
     have O6 : Hid (OwnP w6 Vt.heap.size v6 (L0 ++ [(min x y, max x y)])) := Lib.hid (by unfold OwnP; rw [pF_snoc, List.length_append]; exact hO6);have BV6 := Lib.hid (BV.out.trans hb6);clear hO6 hb6 hO OW
     go_wp2
     go_roundw
     case rel => exact ⟨.inr (.inl ⟨by go_num, by rw [E.out]; exact O6.out⟩), BV6.out⟩
     case measure => simp [intOf]
  ·have OW := Lib.hid hO
   clear hO;have t0 := kt.out.cell (i := 0) rfl;have t1 := kt.out.cell (i := 1) rfl;have t2 := kt.out.cell (i := 2) rfl;have t3 := kt.out.cell (i := 3) rfl;have t4 := kt.out.cell (i := 4) rfl;have t5 := kt.out.cell (i := 5) rfl;have t6 := kt.out.cell (i := 6) rfl;have t7 := kt.out.cell (i := 7) rfl;have t8 := kt.out.cell (i := 8) rfl
   go_upto_region 5 with fail
   have hbf := Lib.hid ((Below.refl Vt.heap.size wr).alloc BV.out.size (.cells #[.int .i64 y, .int .i64 ty, .int .i64 uy] 87));replace BV := Lib.hid (BV.out.trans hbf.out);clear hbf;have hbf := below_new1 wr (.cells #[.int .i64 y, .int .i64 ty, .int .i64 uy] 87);replace kt := Lib.hid (kt.out.keep hbf);replace OW := Lib.hid (OW.out.keep hbf)
   have zf : (wr.alloc (.cells #[.int .i64 y, .int .i64 ty, .int .i64 uy] 87)).heap.size = wr.heap.size + 1 := by simp
   replace HB := Lib.hid (HB.out.trans (hbf.mono HB.out.size));have kf := Lib.hid (Lok.new wr 87 #[.int .i64 y, .int .i64 ty, .int .i64 uy]);clear hbf;generalize wr.alloc (.cells #[.int .i64 y, .int .i64 ty, .int .i64 uy] 87) = Vf at *;clear zf t0 t1 t2 t3 t4 t5 t6 t7 t8;generalize wr.heap.size = gf at *;have t0 := kt.out.cell (i := 0) rfl;have t1 := kt.out.cell (i := 1) rfl;have t2 := kt.out.cell (i := 2) rfl;have t3 := kt.out.cell (i := 3) rfl;have t4 := kt.out.cell (i := 4) rfl;have t5 := kt.out.cell (i := 5) rfl;have t6 := kt.out.cell (i := 6) rfl;have t7 := kt.out.cell (i := 7) rfl;have t8 := kt.out.cell (i := 8) rfl
   go_upto_region 6 with fail
   have hbg := Lib.hid ((Below.refl Vt.heap.size Vf).alloc BV.out.size (.cells #[.int .i64 z, .int .i64 tz, .int .i64 uz] 87));replace BV := Lib.hid (BV.out.trans hbg.out);clear hbg;have hbg := below_new1 Vf (.cells #[.int .i64 z, .int .i64 tz, .int .i64 uz] 87);replace kt := Lib.hid (kt.out.keep hbg);replace kf := Lib.hid (kf.out.keep hbg);replace OW := Lib.hid (OW.out.keep hbg)
   have zg : (Vf.alloc (.cells #[.int .i64 z, .int .i64 tz, .int .i64 uz] 87)).heap.size = Vf.heap.size + 1 := by simp
   replace HB := Lib.hid (HB.out.trans (hbg.mono HB.out.size));have kg := Lib.hid (Lok.new Vf 87 #[.int .i64 z, .int .i64 tz, .int .i64 uz]);clear hbg;generalize Vf.alloc (.cells #[.int .i64 z, .int .i64 tz, .int .i64 uz] 87) = Vg at *;clear zg t0 t1 t2 t3 t4 t5 t6 t7 t8;generalize Vf.heap.size = gg at *;have f0 := kf.out.cell (i := 0) rfl;have g0 := kg.out.cell (i := 0) rfl
   go_upto_region 7 with fail
   have hbh := Lib.hid ((Below.refl Vt.heap.size Vg).alloc BV.out.size (.cells #[.int .i64 (min y z), .int .i64 (max y z)] 121));replace BV := Lib.hid (BV.out.trans hbh.out);clear hbh;have hbh := below_new1 Vg (.cells #[.int .i64 (min y z), .int .i64 (max y z)] 121);replace kt := Lib.hid (kt.out.keep hbh);replace kf := Lib.hid (kf.out.keep hbh);replace kg := Lib.hid (kg.out.keep hbh);replace OW := Lib.hid (OW.out.keep hbh)
   have zh : (Vg.alloc (.cells #[.int .i64 (min y z), .int .i64 (max y z)] 121)).heap.size = Vg.heap.size + 1 := by simp
   replace HB := Lib.hid (HB.out.trans (hbh.mono HB.out.size));have kh := Lib.hid (Lok.new Vg 121 #[.int .i64 (min y z), .int .i64 (max y z)]);clear hbh;generalize Vg.alloc (.cells #[.int .i64 (min y z), .int .i64 (max y z)] 121) = Vh at *;clear zh f0 g0;generalize Vg.heap.size = gh at *;have f0 := kf.out.cell (i := 0) rfl;have g0 := kg.out.cell (i := 0) rfl;have h0 := kh.out.cell (i := 0) rfl;have h1 := kh.out.cell (i := 1) rfl
   by_cases e : y = z
   ·have ne : (y != z) = false := by rw [bne_eq_false_iff_eq]; exact e
    have E := Lib.hid (hL2.out.trans (sdA_same e));have ee := Lib.hid e;clear e
    go_wp2
    go_roundw
    case rel => exact ⟨.inr (.inr (.inl ⟨by go_num, by rw [E.out]; exact OW.out⟩)), BV.out⟩
    case measure => simp [intOf]
   ·have ne : (y != z) = true := by rw [bne_iff_ne]; exact e
    obtain ⟨aL, cL, rfl, hn1, hn2, hn3, hR⟩ := rowP_of_own OW.out;have C := Lib.hid (contains_any aL _ cL _ (min y z) (max y z) Vh hR (by first | omega | (simp only [List.length_nil]; omega)));clear hn1 hn2 hn3 hR
    by_cases hc : (min y z, max y z) ∈ L1
    ·have hd : decide ((min y z, max y z) ∈ L1) = true := decide_eq_true hc
     have E := Lib.hid (hL2.out.trans (sdA_there hc));rw [hd] at C;clear hc hd
     go_wp2_with fail
     ((with_reducible refine C.out.mono ?_); rintro e' w5 ⟨rfl, hb5⟩);replace BV := Lib.hid (BV.out.trans (hb5.mono BV.out.size));replace OW := Lib.hid (OW.out.keep hb5);clear hb5 C
     go_wp2
     go_roundw
     case rel => exact ⟨.inr (.inr (.inl ⟨by go_num, by rw [E.out]; exact OW.out⟩)), BV.out⟩
     case measure => simp [intOf]
    ·have hd : decide ((min y z, max y z) ∈ L1) = false := decide_eq_false hc
     have E := Lib.hid (hL2.out.trans (sdA_yes e hc));rw [hd] at C;clear hc hd;have ee := Lib.hid e;clear e f0 g0 h0 h1;have f0 := kf.out.cell (i := 0) rfl;have g0 := kg.out.cell (i := 0) rfl;have h0 := kh.out.cell (i := 0) rfl;have h1 := kh.out.cell (i := 1) rfl
     go_wp2_with fail
     ((with_reducible refine C.out.mono ?_); rintro e' w5 ⟨rfl, hb5⟩);replace BV := Lib.hid (BV.out.trans (hb5.mono BV.out.size));replace HB := Lib.hid (HB0.out.trans (BV.out.mono HB0.out.size));replace OW := Lib.hid (OW.out.keep hb5);replace kh := Lib.hid (kh.out.keep hb5);clear hb5 C f0 g0 h0 h1;generalize Value.slice aL (L1).length cL = v3 at OW ⊢;have h0 := kh.out.cell (i := 0) rfl;have h1 := kh.out.cell (i := 1) rfl;have hO := OW.out;have hbs := BV.out.size;have q1 : Hid ((L1.length + 1) * 16 ≤ 140737488355328) := Lib.hid (by omega);have q2 : Hid (L1.length ≤ 1000000) := Lib.hid (by omega);have q3 : Hid (∀ u ∈ [Value.int .i64 (min y z), .int .i64 (max y z)], u.oneCell' = true) := Lib.hid (by intro u hu; simp only [List.mem_cons, List.not_mem_nil, or_false] at hu; rcases hu with rfl | rfl <;> rfl)
     go_wp2_with (at_builtin; refine app_one rfl _ _ 133 121 (.agg #[.int .i64 0, .int .i64 0]) 2 16 Tryz.underlying133 infoP rfl (by decide) rfl Vt.heap.size v3 L1.length (valsK L1.length 2 (pF L1)) [.int .i64 (min y z), .int .i64 (max y z)] rfl q3.out rfl hO rfl q1.out q2.out hbs ?_)
     intro v6 w6 hO6 hb6
     have O6 : Hid (OwnP w6 Vt.heap.size v6 (L1 ++ [(min y z, max y z)])) := Lib.hid (by unfold OwnP; rw [pF_snoc, List.length_append]; exact hO6);have BV6 := Lib.hid (BV.out.trans hb6);clear hO6 hb6 hO OW
     go_wp2
     go_roundw
     case rel => exact ⟨.inr (.inr (.inl ⟨by go_num, by rw [E.out]; exact O6.out⟩)), BV6.out⟩
     case measure => simp [intOf]
  ·have OW := Lib.hid hO
   clear hO;have t0 := kt.out.cell (i := 0) rfl;have t1 := kt.out.cell (i := 1) rfl;have t2 := kt.out.cell (i := 2) rfl;have t3 := kt.out.cell (i := 3) rfl;have t4 := kt.out.cell (i := 4) rfl;have t5 := kt.out.cell (i := 5) rfl;have t6 := kt.out.cell (i := 6) rfl;have t7 := kt.out.cell (i := 7) rfl;have t8 := kt.out.cell (i := 8) rfl
   go_upto_region 5 with fail
   have hbf := Lib.hid ((Below.refl Vt.heap.size wr).alloc BV.out.size (.cells #[.int .i64 z, .int .i64 tz, .int .i64 uz] 87));replace BV := Lib.hid (BV.out.trans hbf.out);clear hbf;have hbf := below_new1 wr (.cells #[.int .i64 z, .int .i64 tz, .int .i64 uz] 87);replace kt := Lib.hid (kt.out.keep hbf);replace OW := Lib.hid (OW.out.keep hbf)
   have zf : (wr.alloc (.cells #[.int .i64 z, .int .i64 tz, .int .i64 uz] 87)).heap.size = wr.heap.size + 1 := by simp
   replace HB := Lib.hid (HB.out.trans (hbf.mono HB.out.size));have kf := Lib.hid (Lok.new wr 87 #[.int .i64 z, .int .i64 tz, .int .i64 uz]);clear hbf;generalize wr.alloc (.cells #[.int .i64 z, .int .i64 tz, .int .i64 uz] 87) = Vf at *;clear zf t0 t1 t2 t3 t4 t5 t6 t7 t8;generalize wr.heap.size = gf at *;have t0 := kt.out.cell (i := 0) rfl;have t1 := kt.out.cell (i := 1) rfl;have t2 := kt.out.cell (i := 2) rfl;have t3 := kt.out.cell (i := 3) rfl;have t4 := kt.out.cell (i := 4) rfl;have t5 := kt.out.cell (i := 5) rfl;have t6 := kt.out.cell (i := 6) rfl;have t7 := kt.out.cell (i := 7) rfl;have t8 := kt.out.cell (i := 8) rfl
   go_upto_region 6 with fail
   have hbg := Lib.hid ((Below.refl Vt.heap.size Vf).alloc BV.out.size (.cells #[.int .i64 x, .int .i64 tx, .int .i64 ux] 87));replace BV := Lib.hid (BV.out.trans hbg.out);clear hbg;have hbg := below_new1 Vf (.cells #[.int .i64 x, .int .i64 tx, .int .i64 ux] 87);replace kt := Lib.hid (kt.out.keep hbg);replace kf := Lib.hid (kf.out.keep hbg);replace OW := Lib.hid (OW.out.keep hbg)
   have zg : (Vf.alloc (.cells #[.int .i64 x, .int .i64 tx, .int .i64 ux] 87)).heap.size = Vf.heap.size + 1 := by simp
   replace HB := Lib.hid (HB.out.trans (hbg.mono HB.out.size));have kg := Lib.hid (Lok.new Vf 87 #[.int .i64 x, .int .i64 tx, .int .i64 ux]);clear hbg;generalize Vf.alloc (.cells #[.int .i64 x, .int .i64 tx, .int .i64 ux] 87) = Vg at *;clear zg t0 t1 t2 t3 t4 t5 t6 t7 t8;generalize Vf.heap.size = gg at *;have f0 := kf.out.cell (i := 0) rfl;have g0 := kg.out.cell (i := 0) rfl
   go_upto_region 7 with fail
   have hbh := Lib.hid ((Below.refl Vt.heap.size Vg).alloc BV.out.size (.cells #[.int .i64 (min z x), .int .i64 (max z x)] 121));replace BV := Lib.hid (BV.out.trans hbh.out);clear hbh;have hbh := below_new1 Vg (.cells #[.int .i64 (min z x), .int .i64 (max z x)] 121);replace kt := Lib.hid (kt.out.keep hbh);replace kf := Lib.hid (kf.out.keep hbh);replace kg := Lib.hid (kg.out.keep hbh);replace OW := Lib.hid (OW.out.keep hbh)
   have zh : (Vg.alloc (.cells #[.int .i64 (min z x), .int .i64 (max z x)] 121)).heap.size = Vg.heap.size + 1 := by simp
   replace HB := Lib.hid (HB.out.trans (hbh.mono HB.out.size));have kh := Lib.hid (Lok.new Vg 121 #[.int .i64 (min z x), .int .i64 (max z x)]);clear hbh;generalize Vg.alloc (.cells #[.int .i64 (min z x), .int .i64 (max z x)] 121) = Vh at *;clear zh f0 g0;generalize Vg.heap.size = gh at *;have f0 := kf.out.cell (i := 0) rfl;have g0 := kg.out.cell (i := 0) rfl;have h0 := kh.out.cell (i := 0) rfl;have h1 := kh.out.cell (i := 1) rfl
   by_cases e : z = x
   ·have ne : (z != x) = false := by rw [bne_eq_false_iff_eq]; exact e
    have E := Lib.hid (hL3.out.trans (sdA_same e));have ee := Lib.hid e;clear e
    go_wp2
    go_roundw
    case rel => exact ⟨.inr (.inr (.inr ⟨by go_num, by rw [E.out]; exact OW.out⟩)), BV.out⟩
    case measure => simp [intOf]
   ·have ne : (z != x) = true := by rw [bne_iff_ne]; exact e
    obtain ⟨aL, cL, rfl, hn1, hn2, hn3, hR⟩ := rowP_of_own OW.out;have C := Lib.hid (contains_any aL _ cL _ (min z x) (max z x) Vh hR (by first | omega | (simp only [List.length_nil]; omega)));clear hn1 hn2 hn3 hR
    by_cases hc : (min z x, max z x) ∈ L2
    ·have hd : decide ((min z x, max z x) ∈ L2) = true := decide_eq_true hc
     have E := Lib.hid (hL3.out.trans (sdA_there hc));rw [hd] at C;clear hc hd
     go_wp2_with fail
     ((with_reducible refine C.out.mono ?_); rintro e' w5 ⟨rfl, hb5⟩);replace BV := Lib.hid (BV.out.trans (hb5.mono BV.out.size));replace OW := Lib.hid (OW.out.keep hb5);clear hb5 C
     go_wp2
     go_roundw
     case rel => exact ⟨.inr (.inr (.inr ⟨by go_num, by rw [E.out]; exact OW.out⟩)), BV.out⟩
     case measure => simp [intOf]
    ·have hd : decide ((min z x, max z x) ∈ L2) = false := decide_eq_false hc
     have E := Lib.hid (hL3.out.trans (sdA_yes e hc));rw [hd] at C;clear hc hd;have ee := Lib.hid e;clear e f0 g0 h0 h1;have f0 := kf.out.cell (i := 0) rfl;have g0 := kg.out.cell (i := 0) rfl;have h0 := kh.out.cell (i := 0) rfl;have h1 := kh.out.cell (i := 1) rfl
     go_wp2_with fail
     ((with_reducible refine C.out.mono ?_); rintro e' w5 ⟨rfl, hb5⟩);replace BV := Lib.hid (BV.out.trans (hb5.mono BV.out.size));replace HB := Lib.hid (HB0.out.trans (BV.out.mono HB0.out.size));replace OW := Lib.hid (OW.out.keep hb5);replace kh := Lib.hid (kh.out.keep hb5);clear hb5 C f0 g0 h0 h1;generalize Value.slice aL (L2).length cL = v3 at OW ⊢;have h0 := kh.out.cell (i := 0) rfl;have h1 := kh.out.cell (i := 1) rfl;have hO := OW.out;have hbs := BV.out.size;have q1 : Hid ((L2.length + 1) * 16 ≤ 140737488355328) := Lib.hid (by omega);have q2 : Hid (L2.length ≤ 1000000) := Lib.hid (by omega);have q3 : Hid (∀ u ∈ [Value.int .i64 (min z x), .int .i64 (max z x)], u.oneCell' = true) := Lib.hid (by intro u hu; simp only [List.mem_cons, List.not_mem_nil, or_false] at hu; rcases hu with rfl | rfl <;> rfl)
     go_wp2_with (at_builtin; refine app_one rfl _ _ 133 121 (.agg #[.int .i64 0, .int .i64 0]) 2 16 Tryz.underlying133 infoP rfl (by decide) rfl Vt.heap.size v3 L2.length (valsK L2.length 2 (pF L2)) [.int .i64 (min z x), .int .i64 (max z x)] rfl q3.out rfl hO rfl q1.out q2.out hbs ?_)
     intro v6 w6 hO6 hb6
     have O6 : Hid (OwnP w6 Vt.heap.size v6 (L2 ++ [(min z x, max z x)])) := Lib.hid (by unfold OwnP; rw [pF_snoc, List.length_append]; exact hO6);have BV6 := Lib.hid (BV.out.trans hb6);clear hO6 hb6 hO OW
     go_wp2
     go_roundw
     case rel => exact ⟨.inr (.inr (.inr ⟨by go_num, by rw [E.out]; exact O6.out⟩)), BV6.out⟩
     case measure => simp [intOf]
  ·go_wp2
   go_ret
   exact ⟨⟨_, rfl, by rw [E3.out]; exact ownR_mono hO (Nat.le_of_lt htl)⟩, HB.out⟩
end Go.Proofs.YtcnbbanpnoigdaaGreat
namespace Go.Proofs.YtcnbbanpnoigdaaGreat
open Go.RowKit

theorem Lok.grown {W W' : World} {g : Nat} {t : TypeId} {cs : Array Value} {row : Option Nat} (h : Lok W g t cs) (hg : W.grownBy W' row) (hn : row ≠ some g) : Lok W' g t cs := (hg.block g h.lt (fun e => hn e.symm)).trans h
theorem OwnP.grown {W W' : World} {base : Nat} {row : Option Nat} {v : Value} {L : List (Int × Int)} (h : OwnP W base v L) (hg : W.grownBy W' row) (hn : ∀ g, v.ownBlock = some g → row ≠ some g) : OwnP W' base v L :=
 World.ownsRow.kept h hg (by
  cases e : v.ownBlock with
  | none => exact .inl rfl
  | some g => exact .inr (fun q => hn g e q.symm))
set_option maxRecDepth 100000 in
set_option maxHeartbeats 16000000 in
theorem owners_any (pa1 pa2 pa3 pa4 : Option Addr) (n1 n2 n3 n4 c1 c2 c3 c4 : Nat) (FV FT FN FC : Nat → Nat → Int) (w : World) (hm : MsW w pa1 pa2 pa3 pa4 n1 n2 n3 n4 FV FT FN FC) (hF : ∀ i, i < n4 → ∀ j, j = 0 ∨ j = 3 ∨ j = 6 → 0 ≤ FC i j ∧ FC i j < 2000) (h4 : n4 ≤ 1000) :
  Calls Tryz.prog 78 #[.agg #[.slice pa1 n1 c1, .slice pa2 n2 c2, .slice pa3 n3 c3, .slice pa4 n4 c4]] w fun e w' => (∃ b base, e = .returned (.map (some b)) ∧ w.heap.size ≤ b ∧ MapG w' base b (fun _ => False) (ownS FC n4)) ∧ Below w.heap.size w w' := by
 obtain ⟨iI, hi, hz0, hz1, hz2⟩ := info_parts infoI;have HB := Lib.hid (Below.refl w.heap.size w);have HM := Lib.hid hm;have HF := Lib.hid hF;clear hm hF;have hmm := @run_makeMap Tryz.prog
 go_enter Tryz.func78, Tryz.ntmps78
 go_upto_region 1 with fail
 have hbm := below_new1 w (.cells #[.slice pa1 n1 c1, .slice pa2 n2 c2, .slice pa3 n3 c3, .slice pa4 n4 c4] 26)
 have zm : (w.alloc (.cells #[.slice pa1 n1 c1, .slice pa2 n2 c2, .slice pa3 n3 c3, .slice pa4 n4 c4] 26)).heap.size = w.heap.size + 1 := by simp
 have HB := Lib.hid hbm;have km := Lib.hid (Lok.new w 26 #[.slice pa1 n1 c1, .slice pa2 n2 c2, .slice pa3 n3 c3, .slice pa4 n4 c4]);clear hbm;generalize w.alloc (.cells #[.slice pa1 n1 c1, .slice pa2 n2 c2, .slice pa3 n3 c3, .slice pa4 n4 c4] 26) = Vm at *;have hwm : w.heap.size < Vm.heap.size := km.out.lt;clear zm
 go_upto_region 2 with fail
 have MG := Lib.hid (MapG.made Vm);have hbm : Below Vm.heap.size Vm (Vm.alloc (.map #[] 0)) := (Below.refl _ _).alloc (Nat.le_refl _) _;replace HB := Lib.hid (HB.out.trans (hbm.mono HB.out.size));replace km := Lib.hid (km.out.keep hbm);clear hbm hmm;generalize Vm.alloc (.map #[] 0) = V0 at *;generalize Vm.heap.size = bm at *;have m3 := km.out.cell (i := 3) rfl
 go_wp2_with fail
 clear m3
 go_loopw [12] (fun x wr => ∃ k : Nat, x = .int .i64 k ∧ k ≤ n4 ∧ MapG wr (bm + 1) bm (fun _ => False) (ownS FC k) ∧ Below w.heap.size w wr) (fun x _ => n4 - (intOf x).toNat)
 case atStart => exact ⟨0, rfl, Nat.zero_le _, by rw [show ownS FC 0 = fun _ _ => [] from by funext a c; unfold ownS; split <;> rfl]; exact MG.out, HB.out⟩
 case round =>
  clear HB MG;obtain ⟨k, rfl, hk, hG, hB⟩ := hrel;have HB := Lib.hid hB;have MG := Lib.hid hG;clear hB hG
  by_cases hlt : k < n4
  ·obtain ⟨p, o, rfl, hp, hc⟩ := ((HM.out.keep HB.out).1.2.2.2).at hlt
   have d0 := hc k hlt 0 (by omega);have d1 := hc k hlt 1 (by omega);have d2 := hc k hlt 2 (by omega);have d3 := hc k hlt 3 (by omega);have d4 := hc k hlt 4 (by omega);have d5 := hc k hlt 5 (by omega);have d6 := hc k hlt 6 (by omega);have d7 := hc k hlt 7 (by omega);have d8 := hc k hlt 8 (by omega);rw [Nat.add_zero] at d0;rw [← Nat.add_assoc] at d1 d2 d3 d4 d5 d6 d7 d8;have hx := HF.out k hlt 0 (.inl rfl);have hy := HF.out k hlt 3 (.inr (.inl rfl));have hz := HF.out k hlt 6 (.inr (.inr rfl));have SA := Lib.hid (sdN_all FC k);have SL := Lib.hid (fun (j : Nat) (a c : Int) (h : j ≤ (sdL (FC k 0) (FC k 3) (FC k 6)).length) => sdN_len (a := a) (c := c) h);have OK := Lib.hid (fun (q : Int × Int) (h : q ∈ sdL (FC k 0) (FC k 3) (FC k 6)) => sdL_ok h hx hy hz);have S0 : Hid (∀ L, sdN (ownS FC k) k L 0 = ownS FC k) := Lib.hid (fun _ => rfl);clear hc hx hy hz
   have i0 : (0 : Int) ≤ (k : Int) := by omega
   have i1 : (k : Int) < (n4 : Int) := by omega
   have i2 : ((k : Int)).toNat = k := by omega
   have SD := Lib.hid (fun W => sides_any (FC k 0) (FC k 1) (FC k 2) (FC k 3) (FC k 4) (FC k 5) (FC k 6) (FC k 7) (FC k 8) W);have hll := sdL_len (FC k 0) (FC k 3) (FC k 6);generalize sdL (FC k 0) (FC k 3) (FC k 6) = L at *;generalize FC k 0 = x0 at *;generalize FC k 1 = x1 at *;generalize FC k 2 = x2 at *;generalize FC k 3 = x3 at *;generalize FC k 4 = x4 at *;generalize FC k 5 = x5 at *;generalize FC k 6 = x6 at *;generalize FC k 7 = x7 at *;generalize FC k 8 = x8 at *
   go_upto_region 5 with fail
   have hbt := below_new1 wr (.cells #[.int .i64 x0, .int .i64 x1, .int .i64 x2, .int .i64 x3, .int .i64 x4, .int .i64 x5, .int .i64 x6, .int .i64 x7, .int .i64 x8] 88);replace MG := Lib.hid (MG.out.keep hbt)
   have zt : (wr.alloc (.cells #[.int .i64 x0, .int .i64 x1, .int .i64 x2, .int .i64 x3, .int .i64 x4, .int .i64 x5, .int .i64 x6, .int .i64 x7, .int .i64 x8] 88)).heap.size = wr.heap.size + 1 := by simp
   replace HB := Lib.hid (HB.out.trans (hbt.mono HB.out.size));have kt := Lib.hid (Lok.new wr 88 #[.int .i64 x0, .int .i64 x1, .int .i64 x2, .int .i64 x3, .int .i64 x4, .int .i64 x5, .int .i64 x6, .int .i64 x7, .int .i64 x8]);clear hbt;generalize wr.alloc (.cells #[.int .i64 x0, .int .i64 x1, .int .i64 x2, .int .i64 x3, .int .i64 x4, .int .i64 x5, .int .i64 x6, .int .i64 x7, .int .i64 x8] 88) = Vt at *;clear zt d0 d1 d2 d3 d4 d5 d6 d7 d8;generalize wr.heap.size = gt at *;have t0 := kt.out.cell (i := 0) rfl;have t1 := kt.out.cell (i := 1) rfl;have t2 := kt.out.cell (i := 2) rfl;have t3 := kt.out.cell (i := 3) rfl;have t4 := kt.out.cell (i := 4) rfl;have t5 := kt.out.cell (i := 5) rfl;have t6 := kt.out.cell (i := 6) rfl;have t7 := kt.out.cell (i := 7) rfl;have t8 := kt.out.cell (i := 8) rfl
   go_wp2_with fail
   ((with_reducible refine (SD.out Vt).mono ?_); rintro e w5 ⟨⟨v5, rfl, hO5⟩, hb5⟩);clear t0 t1 t2 t3 t4 t5 t6 t7 t8 kt SD;have OP := Lib.hid hO5;obtain ⟨N, hN⟩ : ∃ N : Nat → Prop, N = fun g => v5.ownBlock = some g := ⟨_, rfl⟩;have hlow : bm < Vt.heap.size := MG.out.lt.1;have MN : Hid (MapG w5 (bm + 1) bm N (ownS FC k)) := Lib.hid ((MG.out.ban (fun g hg => by rw [hN] at hg; exact (World.ownsRow.lt hO5 g hg).1)).keep hb5);have NB : Hid (∀ g, N g → g < w5.heap.size) := Lib.hid (fun g hg => by rw [hN] at hg; exact (World.ownsRow.lt hO5 g hg).2);have NL : Hid (∀ g, N g → bm < g) := Lib.hid (fun g hg => by rw [hN] at hg; have := (World.ownsRow.lt hO5 g hg).1; omega);have NP : Hid (∀ g, v5.ownBlock = some g → N g) := Lib.hid (fun g hg => by rw [hN]; exact hg);replace HB := Lib.hid (HB.out.trans (hb5.mono HB.out.size));clear hN hO5 hb5 hlow MG;obtain ⟨aL, cL, rfl, -, -, -, -⟩ := rowP_of_own OP.out;generalize Vt.heap.size = H0 at *
   go_wp2_with fail
   go_loopw [20] (fun x wr => ∃ j : Nat, x = .int .i64 j ∧ j ≤ L.length ∧ MapG wr (bm + 1) bm N (sdN (ownS FC k) k L j) ∧ OwnP wr H0 (.slice aL L.length cL) L ∧ (∀ g, N g → g < wr.heap.size) ∧ Below w.heap.size w wr) (fun x _ => L.length - (intOf x).toNat)
   case atStart => exact ⟨0, rfl, Nat.zero_le _, by rw [S0.out]; exact MN.out, OP.out, NB.out, HB.out⟩
   case round =>
    clear HB MN OP NB;obtain ⟨j, rfl, hj, hG, hO, hNB, hB⟩ := hrel;have HB := Lib.hid hB;have MG := Lib.hid hG;have OP := Lib.hid hO;have NB := Lib.hid hNB;clear hB hG hO hNB
    by_cases hjl : j < L.length
    ·obtain ⟨a', c', e', -, -, -, hR⟩ := rowP_of_own OP.out
     injection e' with e1 _ e3
     subst e1 e3;obtain ⟨q, oq, x, y, rfl, hq, hL, hx, hy⟩ := hR.at hjl;have hok : okK x y := OK.out (x, y) (List.mem_of_getElem? hL)
     have SJ : Hid (sdN (ownS FC k) k L (j + 1) = upS (sdN (ownS FC k) k L j) x y (sdN (ownS FC k) k L j x y ++ [(k : Int)])) := Lib.hid (by
      show upS (sdN (ownS FC k) k L j) (L.getD j (0, 0)).1 (L.getD j (0, 0)).2 (sdN (ownS FC k) k L j (L.getD j (0, 0)).1 (L.getD j (0, 0)).2 ++ [(k : Int)]) = _
      rw [List.getD_eq_getElem?_getD, hL]; rfl)
     have hlen := SL.out j x y hj;generalize sdN (ownS FC k) k L j = S at *;have HL := Lib.hid hL;clear hR hL
     have j0 : (0 : Int) ≤ (j : Int) := by omega
     have j1 : (j : Int) < (L.length : Int) := by omega
     have j2 : ((j : Int)).toNat = j := by omega
     go_upto_region 8 with fail
     have hbs := below_new1 wr (.cells #[.int .i64 x, .int .i64 y] 121);replace MG := Lib.hid (MG.out.keep hbs);replace OP := Lib.hid (OP.out.keep hbs)
     have zs : (wr.alloc (.cells #[.int .i64 x, .int .i64 y] 121)).heap.size = wr.heap.size + 1 := by simp
     replace HB := Lib.hid (HB.out.trans (hbs.mono HB.out.size));have ks := Lib.hid (Lok.new wr 121 #[.int .i64 x, .int .i64 y]);clear hbs;generalize wr.alloc (.cells #[.int .i64 x, .int .i64 y] 121) = Vs at *
     have hws : wr.heap.size ≤ Vs.heap.size := by rw [zs]; omega
     replace NB := Lib.hid (fun g hg => Nat.lt_of_lt_of_le (NB.out g hg) hws);clear zs hx hy hws;generalize wr.heap.size = gs at *;have s0 := ks.out.cell (i := 0) rfl;have s1 := ks.out.cell (i := 1) rfl;have hbk : Below Vs.heap.size Vs (Vs.alloc (.cells #[.int .i64 k] 3)) := (Below.refl _ _).alloc (Nat.le_refl _) _;have MG1 := MG.out.keep hbk;have NB1 : ∀ g, N g → g < (Vs.alloc (.cells #[.int .i64 k] 3)).heap.size := fun g hg => Nat.lt_of_lt_of_le (NB.out g hg) hbk.size;replace OP := Lib.hid (OP.out.keep hbk);replace HB := Lib.hid (HB.out.trans (hbk.mono HB.out.size));have KC := Lib.hid (Lok.new Vs 3 #[.int .i64 k]);have hbmg := MG.out.lt.1;clear hbk MG NB
     go_wp2_with (refine wpList_entryG rfl _ _ rfl (base := bm + 1) (b := bm) (N := N) (S := S) (p := x) (q := y) rfl rfl MG1 hok NB1 ?_)
     intro v st w1 hO1 hg1 hz1 hNv hback
     replace OP := Lib.hid (OP.out.grown hg1 (fun g hg e => by cases e; have := NL.out _ (NP.out _ hg); omega));replace HB := Lib.hid (HB.out.grown hg1 HB.out.size (fun g hg => by cases hg; omega));replace KC := Lib.hid (KC.out.grown hg1 (fun e => by cases e; omega));have NB := Lib.hid (fun g hg => Nat.lt_of_lt_of_le (NB1 g hg) hg1.size);have BK := Lib.hid hback;have NV := Lib.hid hNv
     have hcell : ∀ (j : Nat) (u : Value), [Value.int .i64 (k : Int)][j]? = some u → w1.cell? (Addr.add ⟨Vs.heap.size, 0, none⟩ j) = some u := fun j u hu => by
      rw [Go.WideShapes.add_plain, Nat.zero_add]
      exact KC.out.cell (by rw [List.getElem?_toArray]; exact hu)
     have hone : ∀ u ∈ [Value.int .i64 (k : Int)], u.oneCell' = true := fun u hu => by rw [List.mem_singleton] at hu; subst hu; rfl
     have hbase : bm + 1 ≤ w1.heap.size := by have := hg1.size; have := NB1; omega
     have q1 : (S x y).length + 1 ≤ maxLen := by unfold maxLen; omega
     have q2 : ((S x y).length + 1) * 8 ≤ 140737488355328 := by omega
     have HC := Lib.hid hcell;have HO := Lib.hid hone;have O1 : Hid (w1.ownsRow (bm + 1) 3 1 v (S x y).length ((S x y).map (Value.int .i64))) := Lib.hid hO1;clear hO1 hz1 hNv hback MG1 NB1 hcell hone
     go_wp2_with (at_builtin; refine wpList_append_own_at _ rfl _ _ 27 rfl (bm + 1) 3 iI (.int .i64 0) 1 8 Tryz.underlying27 hi hz0 hz1 hz2 rfl (by decide) v (S x y).length ((S x y).map (Value.int .i64)) rfl O1.out ⟨Vs.heap.size, 0, none⟩ 1 1 [.int .i64 k] rfl rfl HC.out HO.out q1 q2 hbase ?_)
     intro v' w2 hown hg2 _ hloc
     have O2 : OwnI w2 (bm + 1) v' (S x y ++ [(k : Int)]) := by
      unfold OwnI;rw [List.length_append, List.map_append]
      exact hown
     have hne : S x y ++ [(k : Int)] ≠ [] := by simp
     have hloc2 : v'.ownBlock = v.ownBlock ∨ ∃ g, v'.ownBlock = some g ∧ w1.heap.size ≤ g := hloc.imp id (fun h => ⟨_, h, Nat.le_refl _⟩);replace OP := Lib.hid (OP.out.grown hg2 (fun g hg e => NV.out g e (NP.out g hg)));replace HB := Lib.hid (HB.out.grown hg2 HB.out.size (fun g hg => by have := (World.ownsRow.lt O1.out g hg).1; omega));replace NB := Lib.hid (fun g hg => Nat.lt_of_lt_of_le (NB.out g hg) hg2.size);clear hown hloc
     go_wp2_with (refine wpList_storeG rfl _ _ _ rfl (base := bm + 1) (b := bm) (N := N) (S := S) (p := x) (q := y) (st := st) (v := v) (v' := v') (L := S x y ++ [(k : Int)]) (w1 := w1) rfl rfl rfl BK.out hg2 O2 hne hloc2 ?_)
     intro w3 hG3 hg3
     replace OP := Lib.hid (OP.out.grown hg3 (fun g hg e => by cases e; have := NL.out _ (NP.out _ hg); omega));replace HB := Lib.hid (HB.out.grown hg3 HB.out.size (fun g hg => by cases hg; omega));replace NB := Lib.hid (fun g hg => Nat.lt_of_lt_of_le (NB.out g hg) hg3.size);have G3 := Lib.hid hG3;clear hG3 hg3 hg2 hg1 O2 BK HC HO O1 hloc2 KC
     go_wp2
     go_roundw
     case rel => exact ⟨j + 1, by go_num, hjl, by rw [SJ.out]; exact G3.out, OP.out, NB.out, HB.out⟩
     case measure => simp [intOf]; omega
    ·obtain rfl : j = L.length := by omega
     have G4 : Hid (MapG wr (bm + 1) bm (fun _ => False) (ownS FC (k + 1))) := Lib.hid (by rw [← SA.out]; exact MG.out.free)
     go_wp2
     go_roundw
     case rel => exact ⟨k + 1, by go_num, hlt, G4.out, HB.out⟩
     case measure => simp [intOf]; omega
  ·obtain rfl : k = n4 := by omega
   go_wp2
   go_ret
   exact ⟨⟨bm, bm + 1, rfl, Nat.le_of_lt hwm, MG.out⟩, HB.out⟩
end Go.Proofs.YtcnbbanpnoigdaaGreat
namespace Go.Proofs.YtcnbbanpnoigdaaGreat
open Go.RowKit Go.Sort

end Go.Proofs.YtcnbbanpnoigdaaGreat
