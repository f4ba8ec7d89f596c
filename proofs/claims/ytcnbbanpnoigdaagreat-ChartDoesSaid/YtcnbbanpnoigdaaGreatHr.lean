import Derived.Test.YtcnbbanpnoigdaaGreatHq
import Derived.Shelf.SlSortCmp.NoneTotal
import Derived.Test.YtcnbbanpnoigdaaGreatHb
namespace Go.Proofs.YtcnbbanpnoigdaaGreat
open Go.RowKit Go.Sort

theorem grow_of_below {w w' : World} (h : Below w.heap.size w w') (hd : w.drawn ≤ w'.drawn) : ∃ q os', w' = grow (w.drewN q) os' := by
 refine ⟨w'.drawn - w.drawn, w'.heap.extract w.heap.size, ?_⟩
 have e : w'.heap = w.heap ++ w'.heap.extract w.heap.size := by
  apply Array.ext_getElem?
  intro i
  rw [Array.getElem?_append]
  split
  ·exact h.block i (by assumption)
  ·rename_i hi
   rw [Array.getElem?_extract];have hs := h.size
   by_cases hl : i < w'.heap.size
   ·rw [if_pos (by omega)]
    congr 1
    omega
   ·rw [if_neg (by omega)]
    exact Array.getElem?_eq_none (by omega)
 obtain ⟨h1, h2, h3, _, _⟩ := h
 show w' = grow { w with drawn := w.drawn + (w'.drawn - w.drawn) } _
 unfold grow
 cases w'
 cases w
 simp only [World.mk.injEq] at *
 refine ⟨?_, ?_, ?_, ?_, ?_⟩ <;> first | assumption | omega
abbrev SdE := Int × Int × Option Addr × Nat × Nat
def encE (x : SdE) : List Value := [.int .i64 x.1, .int .i64 x.2.1, .slice x.2.2.1 x.2.2.2.1 x.2.2.2.2]
def orI (p q : Int) : Int := if p = 0 then q else p
def cfE (x y : SdE) : Int := orI (Lib.compareInt x.1 y.1) (Lib.compareInt x.2.1 y.2.1)
theorem cfE_lt (x y : SdE) : ltOf cfE x y = decide (x.1 < y.1 ∨ x.1 = y.1 ∧ x.2.1 < y.2.1) := by
 unfold ltOf cfE orI Lib.compareInt
 apply decide_eq_decide.2
 by_cases h1 : x.1 < y.1
 ·simp [h1]
 ·by_cases h2 : y.1 < x.1
  ·simp [h1, h2]; omega
  ·have e : x.1 = y.1 := by omega
   by_cases h3 : x.2.1 < y.2.1
   ·simp [e, h3]
   ·by_cases h4 : y.2.1 < x.2.1 <;> simp [e, h3, h4]
theorem swoE : SWO (ltOf cfE) where
 irrefl x := by rw [cfE_lt]; simp
 trans x y z h1 h2 := by rw [cfE_lt] at *; simp at *; omega
 ntrans x y z h1 h2 := by rw [cfE_lt] at *; simp at *; omega
theorem cmp_w (x y : Int) (W : World) : Calls Tryz.prog 82 #[.int .i64 x, .int .i64 y] W fun e w' => e = .returned (.int .i64 (Lib.compareInt x y)) ∧ Below W.heap.size W w' ∧ W.drawn ≤ w'.drawn := by
 refine (Tryz.cmp_Compare_int x y W).mono ?_
 rintro e w' ⟨rfl, rfl⟩
 exact ⟨rfl, Below.refl _ _, Nat.le_refl _⟩
set_option maxRecDepth 100000 in
set_option maxHeartbeats 4000000 in
theorem or_w (g : Nat) (p q : Int) (W : World) (h : Lok W g 3 #[.int .i64 p, .int .i64 q]) : Calls Tryz.prog 81 #[.slice (some ⟨g, 0, none⟩) 2 2] W fun e w' => e = .returned (.int .i64 (orI p q)) ∧ w' = W := by
 have k0 := Lib.hid h;clear h
 by_cases hp : p = 0
 ·have hp1 := Lib.hid hp
  have E : Hid (orI p q = q) := Lib.hid (if_pos hp)
  by_cases hq : q = 0
  ·have hq1 := Lib.hid hq
   have t0 := k0.out.cell (i := 0) rfl;have t1 := k0.out.cell (i := 1) rfl
   have n0 : (p != 0) = false := by rw [hp]; rfl
   have n1 : (q != 0) = false := by rw [hq]; rfl
   clear hp hq
   go_enter Tryz.func81, Tryz.ntmps81
   go_wp2_with fail
   go_loopw [5, 8] (fun _ x wr => (x = .int .i64 0 ∨ x = .int .i64 1 ∨ x = .int .i64 2) ∧ wr = W) (fun _ x _ => 2 - (intOf x).toNat)
   case atStart => exact ⟨.inl rfl, rfl⟩
   case round =>
    obtain ⟨h, rfl⟩ := hrel
    rcases h with rfl | rfl | rfl
    ·go_wp2
     go_roundw
     case rel => exact ⟨.inr (.inl (by go_num)), by first | rfl | trivial⟩
     case measure => simp [intOf]
    ·go_wp2
     go_roundw
     case rel => exact ⟨.inr (.inr (by go_num)), by first | rfl | trivial⟩
     case measure => simp [intOf]
    ·go_wp2
     go_ret
     exact ⟨by rw [E.out, hq1.out]; rfl, rfl⟩
  ·have t0 := k0.out.cell (i := 0) rfl
   have t1 := k0.out.cell (i := 1) rfl
   have n0 : (p != 0) = false := by rw [hp]; rfl
   have n1 : (q != 0) = true := by rw [bne_iff_ne]; exact hq
   have hq1 := Lib.hid hq;clear hp hq
   go_enter Tryz.func81, Tryz.ntmps81
   go_wp2_with fail
   go_loopw [5, 8] (fun _ x wr => (x = .int .i64 0 ∨ x = .int .i64 1) ∧ wr = W) (fun _ x _ => 2 - (intOf x).toNat)
   case atStart => exact ⟨.inl rfl, rfl⟩
   case round =>
    obtain ⟨h, rfl⟩ := hrel
    rcases h with rfl | rfl
    ·go_wp2
     go_roundw
     case rel => exact ⟨.inr (by go_num), by first | rfl | trivial⟩
     case measure => simp [intOf]
    ·go_wp2
     go_ret
     exact ⟨by rw [E.out]; rfl, rfl⟩
 ·have E : Hid (orI p q = p) := Lib.hid (if_neg hp)
  have t0 := k0.out.cell (i := 0) rfl
  have n0 : (p != 0) = true := by rw [bne_iff_ne]; exact hp
  clear hp
  go_enter Tryz.func81, Tryz.ntmps81
  go_wp2_with fail
  go_loopw [5, 8] (fun _ x wr => x = .int .i64 0 ∧ wr = W) (fun _ x _ => 2 - (intOf x).toNat)
  case atStart => exact ⟨rfl, rfl⟩
  case round =>
   obtain ⟨rfl, rfl⟩ := hrel
   go_wp2
   go_ret
   exact ⟨by rw [E.out]; rfl, rfl⟩
theorem or_w2 (v : Value) (p q : Int) (W : World) (h : RowAt W v 2 3 #[.int .i64 p, .int .i64 q]) : Calls Tryz.prog 81 #[v] W fun e w' => e = .returned (.int .i64 (orI p q)) ∧ Below W.heap.size W w' ∧ W.drawn ≤ w'.drawn := by
 obtain ⟨g, rfl, hl⟩ := h
 refine (or_w g p q W hl).mono ?_
 rintro e w' ⟨rfl, rfl⟩
 exact ⟨rfl, Below.refl _ _, Nat.le_refl _⟩
set_option maxRecDepth 100000 in
set_option maxHeartbeats 8000000 in
theorem sorts_any (x y : SdE) (w : World) : Calls Tryz.prog 80 #[.agg (encE x).toArray, .agg (encE y).toArray] w fun e w' => e = .returned (.int .i64 (cfE x y)) ∧ ∃ q os', w' = grow (w.drewN q) os' := by
 obtain ⟨a0, a1, pa, na, ca⟩ := x;obtain ⟨b0, b1, pb, nb, cb⟩ := y
 show Calls Tryz.prog 80 #[.agg #[.int .i64 a0, .int .i64 a1, .slice pa na ca], .agg #[.int .i64 b0, .int .i64 b1, .slice pb nb cb]] w fun e w' => e = .returned (.int .i64 (orI (Lib.compareInt a0 b0) (Lib.compareInt a1 b1))) ∧ ∃ q os', w' = grow (w.drewN q) os'
 have C1 := Lib.hid (fun W => cmp_w a0 b0 W);have C2 := Lib.hid (fun W => cmp_w a1 b1 W);generalize Lib.compareInt a0 b0 = p at *;generalize Lib.compareInt a1 b1 = r at *;have HB := Lib.hid (Below.refl w.heap.size w)
 go_enter Tryz.func80, Tryz.ntmps80
 go_upto_region 1 with fail
 have DR : w.drawn ≤ ((w.alloc (.cells #[.int .i64 a0, .int .i64 a1, .slice pa na ca] 100)).alloc (.cells #[.int .i64 b0, .int .i64 b1, .slice pb nb cb] 100)).drawn := Nat.le_refl _;have hbe := below_new1 w (.cells #[.int .i64 a0, .int .i64 a1, .slice pa na ca] 100)
 have ze : (w.alloc (.cells #[.int .i64 a0, .int .i64 a1, .slice pa na ca] 100)).heap.size = w.heap.size + 1 := by simp
 have HB := Lib.hid hbe;have ke := Lib.hid (Lok.new w 100 #[.int .i64 a0, .int .i64 a1, .slice pa na ca]);clear hbe;generalize w.alloc (.cells #[.int .i64 a0, .int .i64 a1, .slice pa na ca] 100) = Ve at *;have hbf := below_new1 Ve (.cells #[.int .i64 b0, .int .i64 b1, .slice pb nb cb] 100);replace ke := Lib.hid (ke.out.keep hbf)
 have zf : (Ve.alloc (.cells #[.int .i64 b0, .int .i64 b1, .slice pb nb cb] 100)).heap.size = Ve.heap.size + 1 := by simp
 replace HB := Lib.hid (HB.out.trans (hbf.mono HB.out.size));have kf := Lib.hid (Lok.new Ve 100 #[.int .i64 b0, .int .i64 b1, .slice pb nb cb]);clear hbf;generalize Ve.alloc (.cells #[.int .i64 b0, .int .i64 b1, .slice pb nb cb] 100) = Vf at *;rw [ze] at kf zf;clear ze zf
 refine wp_region_rel (by kernel_rfl) [4, 5, 6, 7, 8, 9, 10, 11, 12, 13, 14, 15, 16] ?Fr1 ?hFr1
  (fun L u W => Below Vf.heap.size Vf W ∧ (L 0 = true → u 5 = .pointer (some ⟨w.heap.size, 0, none⟩)) ∧ (L 1 = true → u 6 = .int .i64 a0) ∧ (L 2 = true → u 7 = .pointer (some ⟨w.heap.size + 1, 0, none⟩)) ∧ (L 3 = true → u 8 = .int .i64 b0) ∧ (L 4 = true → u 9 = .int .i64 p) ∧ (L 5 = true → u 10 = .pointer (some ⟨w.heap.size, 1, none⟩)) ∧ (L 6 = true → u 11 = .int .i64 a1) ∧ (L 7 = true → u 12 = .pointer (some ⟨w.heap.size + 1, 1, none⟩)) ∧ (L 8 = true → u 13 = .int .i64 b1) ∧ (L 9 = true → u 14 = .int .i64 r) ∧ (L 10 = true → L 11 = false → RowAt W (u 15) 2 3 #[.int .i64 p, .int .i64 r]) ∧ (L 11 = true → u 16 = .int .i64 (orI p r)) ∧ (L 12 = true → u 4 = .int .i64 (orI p r)) ∧ Vf.drawn ≤ W.drawn) (by kernel_rfl) (by kernel_rfl) 13 rfl ?h0r1 ?stepr1 ?finr1
 case hFr1 => intro u; simp only [putAll, Act.put, List.setIfInBounds_toArray, List.set]; exact rfl
 case h0r1 => intro L u hL; exact ⟨(Below.refl _ _).drew, (fun h => by simp [hL] at h), (fun h => by simp [hL] at h), (fun h => by simp [hL] at h), (fun h => by simp [hL] at h), (fun h => by simp [hL] at h), (fun h => by simp [hL] at h), (fun h => by simp [hL] at h), (fun h => by simp [hL] at h), (fun h => by simp [hL] at h), (fun h => by simp [hL] at h), (fun h => by simp [hL] at h), (fun h => by simp [hL] at h), (fun h => by simp [hL] at h), (Nat.le_succ _)⟩
 case stepr1 =>
  refine ops_all (ops_cons ?s0r1 (ops_cons ?s1r1 (ops_cons ?s2r1 (ops_cons ?s3r1 (ops_cons ?s4r1 (ops_cons ?s5r1 (ops_cons ?s6r1 (ops_cons ?s7r1 (ops_cons ?s8r1 (ops_cons ?s9r1 (ops_cons ?s10r1 (ops_cons ?s11r1 (ops_cons ?s12r1 (ops_nil))))))))))))))
  case s0r1 =>
   rintro L u W ⟨hB, c0, c1, c2, c3, c4, c5, c6, c7, c8, c9, c10, c11, c12, DRW⟩ hf hd K hK
   dsimp only at hK
   clear hd
   go_simp
   refine hK _ _ ?_ (fun h => by cases h)
   intro s hs
   cases hs
   exact ⟨hB, (fun _ => rfl), c1, c2, c3, c4, c5, c6, c7, c8, c9, c10, c11, c12, (by first | exact DRW | exact Nat.le_trans DRW hdr)⟩
  case s1r1 =>
   rintro L u W ⟨hB, c0, c1, c2, c3, c4, c5, c6, c7, c8, c9, c10, c11, c12, DRW⟩ hf hd K hK
   dsimp only at hK
   have hd0 : L 0 = true := (by first | exact hd ⟨0, .data⟩ (by simp) rfl | exact hd ⟨0, .guard⟩ (by simp) rfl | exact hd ⟨0, .phase⟩ (by simp) rfl | exact hd ⟨0, .chain⟩ (by simp) rfl);have e0 := c0 hd0;rw [e0] at hK;have t0 := (ke.out.keep hB).cell (i := 0) rfl;clear hd0;clear hd
   go_simp
   refine hK _ _ ?_ (fun h => by cases h)
   intro s hs
   cases hs
   exact ⟨hB, c0, (fun _ => rfl), c2, c3, c4, c5, c6, c7, c8, c9, c10, c11, c12, (by first | exact DRW | exact Nat.le_trans DRW hdr)⟩
  case s2r1 =>
   rintro L u W ⟨hB, c0, c1, c2, c3, c4, c5, c6, c7, c8, c9, c10, c11, c12, DRW⟩ hf hd K hK
   dsimp only at hK
   clear hd
   go_simp
   refine hK _ _ ?_ (fun h => by cases h)
   intro s hs
   cases hs
   exact ⟨hB, c0, c1, (fun _ => rfl), c3, c4, c5, c6, c7, c8, c9, c10, c11, c12, (by first | exact DRW | exact Nat.le_trans DRW hdr)⟩
  case s3r1 =>
   rintro L u W ⟨hB, c0, c1, c2, c3, c4, c5, c6, c7, c8, c9, c10, c11, c12, DRW⟩ hf hd K hK
   dsimp only at hK
   have hd2 : L 2 = true := (by first | exact hd ⟨2, .data⟩ (by simp) rfl | exact hd ⟨2, .guard⟩ (by simp) rfl | exact hd ⟨2, .phase⟩ (by simp) rfl | exact hd ⟨2, .chain⟩ (by simp) rfl);have e2 := c2 hd2;rw [e2] at hK;have t0 := (kf.out.keep hB).cell (i := 0) rfl;clear hd2;clear hd
   go_simp
   refine hK _ _ ?_ (fun h => by cases h)
   intro s hs
   cases hs
   exact ⟨hB, c0, c1, c2, (fun _ => rfl), c4, c5, c6, c7, c8, c9, c10, c11, c12, (by first | exact DRW | exact Nat.le_trans DRW hdr)⟩
  case s4r1 =>
   rintro L u W ⟨hB, c0, c1, c2, c3, c4, c5, c6, c7, c8, c9, c10, c11, c12, DRW⟩ hf hd K hK
   dsimp only at hK
   have hd1 : L 1 = true := (by first | exact hd ⟨1, .data⟩ (by simp) rfl | exact hd ⟨1, .guard⟩ (by simp) rfl | exact hd ⟨1, .phase⟩ (by simp) rfl | exact hd ⟨1, .chain⟩ (by simp) rfl);have hd3 : L 3 = true := (by first | exact hd ⟨3, .data⟩ (by simp) rfl | exact hd ⟨3, .guard⟩ (by simp) rfl | exact hd ⟨3, .phase⟩ (by simp) rfl | exact hd ⟨3, .chain⟩ (by simp) rfl);have e1 := c1 hd1;rw [e1] at hK;have e3 := c3 hd3;rw [e3] at hK;clear hd1;clear hd3;clear hd
   go_simp
   go_wp2_with (go_at_call 82; ((with_reducible refine (C1.out _).mono ?_); rintro e w5 ⟨rfl, hb, hdr⟩))
   refine hK _ _ ?_ (fun h => by cases h)
   intro s hs
   cases hs
   exact ⟨hB.trans (hb.mono hB.size), c0, c1, c2, c3, (fun _ => rfl), c5, c6, c7, c8, c9, (fun h k => (c10 h k).keep hb), c11, c12, (by first | exact DRW | exact Nat.le_trans DRW hdr)⟩
  case s5r1 =>
   rintro L u W ⟨hB, c0, c1, c2, c3, c4, c5, c6, c7, c8, c9, c10, c11, c12, DRW⟩ hf hd K hK
   dsimp only at hK
   clear hd
   go_simp
   refine hK _ _ ?_ (fun h => by cases h)
   intro s hs
   cases hs
   exact ⟨hB, c0, c1, c2, c3, c4, (fun _ => rfl), c6, c7, c8, c9, c10, c11, c12, (by first | exact DRW | exact Nat.le_trans DRW hdr)⟩
  case s6r1 =>
   rintro L u W ⟨hB, c0, c1, c2, c3, c4, c5, c6, c7, c8, c9, c10, c11, c12, DRW⟩ hf hd K hK
   dsimp only at hK
   have hd5 : L 5 = true := (by first | exact hd ⟨5, .data⟩ (by simp) rfl | exact hd ⟨5, .guard⟩ (by simp) rfl | exact hd ⟨5, .phase⟩ (by simp) rfl | exact hd ⟨5, .chain⟩ (by simp) rfl);have e5 := c5 hd5;rw [e5] at hK;have t0 := (ke.out.keep hB).cell (i := 1) rfl;clear hd5;clear hd
   go_simp
   refine hK _ _ ?_ (fun h => by cases h)
   intro s hs
   cases hs
   exact ⟨hB, c0, c1, c2, c3, c4, c5, (fun _ => rfl), c7, c8, c9, c10, c11, c12, (by first | exact DRW | exact Nat.le_trans DRW hdr)⟩
  case s7r1 =>
   rintro L u W ⟨hB, c0, c1, c2, c3, c4, c5, c6, c7, c8, c9, c10, c11, c12, DRW⟩ hf hd K hK
   dsimp only at hK
   clear hd
   go_simp
   refine hK _ _ ?_ (fun h => by cases h)
   intro s hs
   cases hs
   exact ⟨hB, c0, c1, c2, c3, c4, c5, c6, (fun _ => rfl), c8, c9, c10, c11, c12, (by first | exact DRW | exact Nat.le_trans DRW hdr)⟩
  case s8r1 =>
   rintro L u W ⟨hB, c0, c1, c2, c3, c4, c5, c6, c7, c8, c9, c10, c11, c12, DRW⟩ hf hd K hK
   dsimp only at hK
   have hd7 : L 7 = true := (by first | exact hd ⟨7, .data⟩ (by simp) rfl | exact hd ⟨7, .guard⟩ (by simp) rfl | exact hd ⟨7, .phase⟩ (by simp) rfl | exact hd ⟨7, .chain⟩ (by simp) rfl);have e7 := c7 hd7;rw [e7] at hK;have t0 := (kf.out.keep hB).cell (i := 1) rfl;clear hd7;clear hd
   go_simp
   refine hK _ _ ?_ (fun h => by cases h)
   intro s hs
   cases hs
   exact ⟨hB, c0, c1, c2, c3, c4, c5, c6, c7, (fun _ => rfl), c9, c10, c11, c12, (by first | exact DRW | exact Nat.le_trans DRW hdr)⟩
  case s9r1 =>
   rintro L u W ⟨hB, c0, c1, c2, c3, c4, c5, c6, c7, c8, c9, c10, c11, c12, DRW⟩ hf hd K hK
   dsimp only at hK
   have hd6 : L 6 = true := (by first | exact hd ⟨6, .data⟩ (by simp) rfl | exact hd ⟨6, .guard⟩ (by simp) rfl | exact hd ⟨6, .phase⟩ (by simp) rfl | exact hd ⟨6, .chain⟩ (by simp) rfl);have hd8 : L 8 = true := (by first | exact hd ⟨8, .data⟩ (by simp) rfl | exact hd ⟨8, .guard⟩ (by simp) rfl | exact hd ⟨8, .phase⟩ (by simp) rfl | exact hd ⟨8, .chain⟩ (by simp) rfl);have e6 := c6 hd6;rw [e6] at hK;have e8 := c8 hd8;rw [e8] at hK;clear hd6;clear hd8;clear hd
   go_simp
   go_wp2_with (go_at_call 82; ((with_reducible refine (C2.out _).mono ?_); rintro e w5 ⟨rfl, hb, hdr⟩))
   refine hK _ _ ?_ (fun h => by cases h)
   intro s hs
   cases hs
   exact ⟨hB.trans (hb.mono hB.size), c0, c1, c2, c3, c4, c5, c6, c7, c8, (fun _ => rfl), (fun h k => (c10 h k).keep hb), c11, c12, (by first | exact DRW | exact Nat.le_trans DRW hdr)⟩
  case s10r1 =>
   rintro L u W ⟨hB, c0, c1, c2, c3, c4, c5, c6, c7, c8, c9, c10, c11, c12, DRW⟩ hf hd K hK
   dsimp only at hK
   have hd4 : L 4 = true := (by first | exact hd ⟨4, .data⟩ (by simp) rfl | exact hd ⟨4, .guard⟩ (by simp) rfl | exact hd ⟨4, .phase⟩ (by simp) rfl | exact hd ⟨4, .chain⟩ (by simp) rfl);have hd9 : L 9 = true := (by first | exact hd ⟨9, .data⟩ (by simp) rfl | exact hd ⟨9, .guard⟩ (by simp) rfl | exact hd ⟨9, .phase⟩ (by simp) rfl | exact hd ⟨9, .chain⟩ (by simp) rfl);have e4 := c4 hd4;rw [e4] at hK;have e9 := c9 hd9;rw [e9] at hK;clear hd4;clear hd9;clear hd
   go_simp
   have hb : Below W.heap.size W (W.alloc (.cells #[.int .i64 p, .int .i64 r] 3)) := (Below.refl _ W).alloc (Nat.le_refl _) _
   refine hK _ _ ?_ (fun h => by cases h)
   intro s hs
   cases hs
   exact ⟨hB.trans (hb.mono hB.size), c0, c1, c2, c3, c4, c5, c6, c7, c8, c9, (fun _ _ => ⟨_, rfl, Lok.new _ _ _⟩), c11, c12, (by first | exact DRW | exact Nat.le_trans DRW hdr)⟩
  case s11r1 =>
   rintro L u W ⟨hB, c0, c1, c2, c3, c4, c5, c6, c7, c8, c9, c10, c11, c12, DRW⟩ hf hd K hK
   dsimp only at hK
   have hd10 : L 10 = true := (by first | exact hd ⟨10, .data⟩ (by simp) rfl | exact hd ⟨10, .guard⟩ (by simp) rfl | exact hd ⟨10, .phase⟩ (by simp) rfl | exact hd ⟨10, .chain⟩ (by simp) rfl);have e10 := c10 hd10 (by first | exact hf | assumption);clear hd10;clear hd
   go_simp
   go_wp2_with (go_at_call 81; ((with_reducible refine (or_w2 _ p r _ e10).mono ?_); rintro e w5 ⟨rfl, hb, hdr⟩))
   refine hK _ _ ?_ (fun h => by cases h)
   intro s hs
   cases hs
   exact ⟨hB.trans (hb.mono hB.size), c0, c1, c2, c3, c4, c5, c6, c7, c8, c9, (fun _ h => by cases h), (fun _ => rfl), c12, (by first | exact DRW | exact Nat.le_trans DRW hdr)⟩
  case s12r1 =>
   rintro L u W ⟨hB, c0, c1, c2, c3, c4, c5, c6, c7, c8, c9, c10, c11, c12, DRW⟩ hf hd K hK
   dsimp only at hK
   have hd11 : L 11 = true := (by first | exact hd ⟨11, .data⟩ (by simp) rfl | exact hd ⟨11, .guard⟩ (by simp) rfl | exact hd ⟨11, .phase⟩ (by simp) rfl | exact hd ⟨11, .chain⟩ (by simp) rfl);have e11 := c11 hd11;rw [e11] at hK;clear hd11;clear hd
   go_simp
   refine hK _ _ ?_ (fun h => by cases h)
   intro s hs
   cases hs
   exact ⟨hB, c0, c1, c2, c3, c4, c5, c6, c7, c8, c9, c10, c11, (fun _ => rfl), (by first | exact DRW | exact Nat.le_trans DRW hdr)⟩
 case finr1 =>
  rintro L u W hL ⟨hB, c0, c1, c2, c3, c4, c5, c6, c7, c8, c9, c10, c11, c12, DRW⟩
  have e0 := c0 (hL 0 (by decide));have e1 := c1 (hL 1 (by decide));have e2 := c2 (hL 2 (by decide));have e3 := c3 (hL 3 (by decide));have e4 := c4 (hL 4 (by decide));have e5 := c5 (hL 5 (by decide));have e6 := c6 (hL 6 (by decide));have e7 := c7 (hL 7 (by decide));have e8 := c8 (hL 8 (by decide));have e9 := c9 (hL 9 (by decide));have e11 := c11 (hL 11 (by decide));have e12 := c12 (hL 12 (by decide));clear hL c0 c1 c2 c3 c4 c5 c6 c7 c8 c9 c10 c11 c12
  try simp only [e0, e1, e2, e3, e4, e5, e6, e7, e8, e9, e11, e12]
  clear e0 e1 e2 e3 e4 e5 e6 e7 e8 e9 e11 e12;have HZ := Lib.hid (HB.out.trans (hB.mono HB.out.size));have DZ := Lib.hid (Nat.le_trans DR DRW);clear hB DRW
  go_wp2
  go_ret
  exact ⟨rfl, grow_of_below HZ.out DZ.out⟩
theorem eg_sorts : ∀ args w, (callFunc 80 args).run Tryz.prog w = .ok (.enter 80 args) w := enters_of Tryz.func80 (by kernel_rfl) rfl
theorem laysE (blk off size : Nat) (w : World) : CmpLays Tryz.prog 80 #[] encE 3 cfE blk off size w := fun _ _ _ _ x y => sorts_any x y _
end Go.Proofs.YtcnbbanpnoigdaaGreat
namespace Go.Proofs.YtcnbbanpnoigdaaGreat
open Go.RowKit

theorem ms_rng {n1 n2 n3 n4 : Nat} {FV FT FN FC : Nat → Nat → Int} (hr : msB n1 n2 n3 n4 FV FT FN FC = true) : n4 ≤ 500 ∧ ∀ i, i < n4 → ∀ j, j = 0 ∨ j = 3 ∨ j = 6 → 0 ≤ FC i j ∧ FC i j < 2000 := by
 unfold msB at hr;rw [Bool.and_eq_true, Bool.and_eq_true, Bool.and_eq_true, Bool.and_eq_true] at hr;have s := shB_iff.1 hr.1
 refine ⟨s.2, fun i hi j hj => ?_⟩
 have t := (allB_iff _ _).1 hr.2.2.2.2 i hi;have t2 := fun k (hk : k < 3) => (cnB_iff.1 ((allB_iff _ _).1 t k hk)).1
 rcases hj with rfl | rfl | rfl
 ·have z : 0 ≤ FC i 0 ∧ FC i 0 < (n1 : Int) := t2 0 (by omega); exact ⟨z.1, by have := z.2; have := s.1.1; omega⟩
 ·have z : 0 ≤ FC i 3 ∧ FC i 3 < (n1 : Int) := t2 1 (by omega); exact ⟨z.1, by have := z.2; have := s.1.1; omega⟩
 ·have z : 0 ≤ FC i 6 ∧ FC i 6 < (n1 : Int) := t2 2 (by omega); exact ⟨z.1, by have := z.2; have := s.1.1; omega⟩
end Go.Proofs.YtcnbbanpnoigdaaGreat
namespace Go.Proofs.YtcnbbanpnoigdaaGreat
open Go.RowKit Go.Sort

theorem born_perm {e : MapEntry} : ∀ {l : List MapEntry}, (l.map (·.born)).Nodup → e ∈ l → l.Perm (e :: l.filter fun x => !(x.born == e.born))
 | [], _, h => absurd h (by simp)
 | a :: l, hn, h => by
  simp only [List.map_cons, List.nodup_cons] at hn
  rcases List.mem_cons.1 h with rfl | h
  ·have z : l.filter (fun x => !(x.born == e.born)) = l := List.filter_eq_self.2 fun x hx => by
    have : x.born ≠ e.born := fun q => hn.1 (List.mem_map.2 ⟨x, hx, q⟩)
    simpa using this
   rw [List.filter_cons_of_neg (by simp), z]
  ·have na : a.born ≠ e.born := fun q => hn.1 (List.mem_map.2 ⟨e, h, q.symm⟩)
   rw [List.filter_cons_of_pos (by simpa using na)]
   exact ((born_perm hn.2 h).cons a).trans (List.Perm.swap _ _ _)
theorem left_perm {es : Array MapEntry} {seen : Array Nat} {e : MapEntry} (hn : (es.toList.map (·.born)).Nodup) (he : e ∈ (leftOf es seen).toList) : (leftOf es seen).toList.Perm (e :: (leftOf es (seen.push e.born)).toList) := by
 have l1 : ∀ s : Array Nat, (leftOf es s).toList = es.toList.filter fun x => !s.contains x.born := fun s => by unfold leftOf; simp
 have hn2 : (((leftOf es seen).toList).map (·.born)).Nodup := by
  rw [l1]
  exact hn.sublist (List.Sublist.map _ List.filter_sublist)
 have z := born_perm hn2 he;rw [show (leftOf es (seen.push e.born)).toList = (leftOf es seen).toList.filter fun x => !(x.born == e.born) from ?_]
 ·exact z
 ·rw [l1, l1, List.filter_filter]
  congr 1
  funext x
  rw [contains_push]
  cases seen.contains x.born <;> cases (x.born == e.born) <;> rfl
def ItrG (W : World) (r b : Nat) (es : Array MapEntry) (seen : Array Nat) : Prop :=
 ∃ clock since c0, W.heap[r]? = some (.mapIter (some b) since seen c0) ∧ W.heap[b]? = some (.map es clock) ∧ (∀ x ∈ es.toList, x.born < since) ∧ since ≤ c0 ∧ since ≤ clock ∧ (es.toList.map (·.born)).Nodup ∧ r ≠ b
theorem ItrG.lt {W : World} {r b : Nat} {es : Array MapEntry} {seen : Array Nat} (h : ItrG W r b es seen) : r < W.heap.size ∧ b < W.heap.size := by
 obtain ⟨clock, since, c0, h1, h2, _⟩ := h
 exact ⟨(Array.getElem?_eq_some_iff.1 h1).1, (Array.getElem?_eq_some_iff.1 h2).1⟩
theorem ItrG.keepB {W W' : World} {n r b : Nat} {es : Array MapEntry} {seen : Array Nat} (h : ItrG W r b es seen) (hb : Below n W W') (hr : r < n) (hm : b < n) : ItrG W' r b es seen := by
 obtain ⟨clock, since, c0, h1, h2, h3⟩ := h
 exact ⟨clock, since, c0, (hb.block r hr).trans h1, (hb.block b hm).trans h2, h3⟩
def seenN (W : World) (r : Nat) (es : Array MapEntry) : Nat := (leftOf es (W.iterSeen r)).size
theorem ItrG.count {W : World} {r b : Nat} {es : Array MapEntry} {seen : Array Nat} (h : ItrG W r b es seen) : seenN W r es = (leftOf es seen).size := by
 obtain ⟨clock, since, c0, h1, _⟩ := h;unfold seenN World.iterSeen;rw [h1]
section
variable {w : World} {ops : Array Oper} {rest : List Oper} {o : Oper} {a : Act} {Q : Exit → Act → World → Prop}
theorem wpList_rangeG (hg : o.guard = none) (m : Operand) (hop : o.op = Op.range 118 m) {b : Nat} {es : Array MapEntry} {clock : Nat} (hm : a.eval m = .map (some b)) (h : w.heap[b]? = some (.map es clock)) (hs : MapKept.Stamped es clock)
  (hK : ∀ w', ItrG w' w.heap.size b es #[] → Below w.heap.size w w' → w'.heap.size = w.heap.size + 1 → wpList Tryz.prog ops Q rest (a.put o.dst (.pointer (some ⟨w.heap.size, 0, none⟩))) w') : wpList Tryz.prog ops Q (o :: rest) a w := by
 refine wpList_plain hg fun K' hK' => ?_
 have hrun := run_range_map (P := Tryz.prog) w 118 _ _ b es clock Tryz.underlying118 h;have hlt := (Array.getElem?_eq_some_iff.1 h).1;unfold Oper.wp
 simp [execOp, hop, hm, hrun, Result.andThen]
 exact hK' _ _ (hK _ ⟨clock, clock, clock, (MapKept.heap_alloc w _).1, ((MapKept.heap_alloc w _).2 b hlt).trans h, hs.1, Nat.le_refl _, Nat.le_refl _, hs.2.1, by omega⟩ ((Below.refl _ _).alloc (Nat.le_refl _) _) (by simp))
theorem wpList_nextG (hg : o.guard = none) (it : Operand) (hop : o.op = Op.next it false) {r b : Nat} {es : Array MapEntry} {seen : Array Nat} (hit : a.eval it = .pointer (some ⟨r, 0, none⟩)) (h : ItrG w r b es seen)
  (hDone : (leftOf es seen).size = 0 → wpList Tryz.prog ops Q rest (a.put o.dst (.tuple #[.bool false])) w)
  (hMore : ∀ e w', e ∈ (leftOf es seen).toList → ItrG w' r b es (seen.push e.born) → w.grownBy w' (some r) → (Instr.entry (.pointer (some ⟨r, 0, none⟩))).run Tryz.prog w' = .ok (.tuple #[e.key, e.val]) w' → wpList Tryz.prog ops Q rest (a.put o.dst (.tuple #[.bool true, e.key, e.val])) w') : wpList Tryz.prog ops Q (o :: rest) a w := by
 refine wpList_plain hg fun K' hK' => ?_
 have hl := h.lt;obtain ⟨clock, since, c0, h1, h2, h3, h4, h7, h5, h6⟩ := h;unfold Oper.wp
 rcases run_next_at (P := Tryz.prog) w o.type r b since c0 seen es clock h1 h2 h3 h4 with ⟨h0, hrun⟩ | ⟨e, he, w1, hal, hrun⟩
 ·simp [execOp, hop, hit, hrun, Result.andThen]
  exact hK' _ _ (hDone h0)
 ·have hw1 : w1.heap = w.heap := by rcases hal with rfl | rfl <;> rfl
  have hr1 : w1.heap[r]? = some (.mapIter (some b) since seen c0) := by rw [hw1]; exact h1
  have g1 : w.grownBy (ChangeMaps.setBlock w1 r (.mapIter (some b) since (seen.push e.born) clock)) (some r) := by
   refine ⟨?_, ?_, ?_, by simp [ChangeMaps.setBlock, hw1], fun i _ hi => ?_⟩
   ·rcases hal with rfl | rfl <;> rfl
   ·rcases hal with rfl | rfl <;> rfl
   ·rcases hal with rfl | rfl <;> rfl
   ·have hne : r ≠ i := fun q => hi (by rw [q])
    simp [ChangeMaps.setBlock, hw1, hne]
  have e1 : (ChangeMaps.setBlock w1 r (.mapIter (some b) since (seen.push e.born) clock)).heap[r]? = some (.mapIter (some b) since (seen.push e.born) clock) := by
   simp [ChangeMaps.setBlock, hw1, hl.1]
  have e2 : (ChangeMaps.setBlock w1 r (.mapIter (some b) since (seen.push e.born) clock)).heap[b]? = some (.map es clock) := by
   simp [ChangeMaps.setBlock, hw1, h6]
   exact h2
  have hmem := (mem_left he).1;have hen := run_entry_at (P := Tryz.prog) (ChangeMaps.setBlock w1 r (.mapIter (some b) since (seen.push e.born) clock)) r b since seen es clock e e1 e2 hmem h5;have hI : ItrG (ChangeMaps.setBlock w1 r (.mapIter (some b) since (seen.push e.born) clock)) r b es (seen.push e.born) := ⟨clock, since, clock, e1, e2, h3, h7, h7, h5, h6⟩
  simp [execOp, hop, hit, hrun, Result.andThen]
  exact hK' _ _ (hMore e _ he hI g1 hen)
end
end Go.Proofs.YtcnbbanpnoigdaaGreat
namespace Go.Proofs.YtcnbbanpnoigdaaGreat
open Go.RowKit Go.Sort

def kA : Value → Int × Int
 | .agg cs => match cs.toList with
  | [.int _ a, .int _ c] => (a, c)
  | _ => (0, 0)
 | _ => (0, 0)
theorem kA_key (a c : Int) : kA (keyV a c) = (a, c) := rfl
def slP : Value → Option Addr × Nat × Nat
 | .slice p n c => (p, n, c)
 | _ => (none, 0, 0)
def toSd (e : MapEntry) : SdE := ((kA e.key).1, (kA e.key).2, slP e.val)
theorem encE_len (x : SdE) : (encE x).length = 3 := rfl
theorem encE_one : ∀ x : SdE, ∀ v ∈ encE x, v.oneCell' = true := fun x v hv => by
 unfold encE at hv
 simp only [List.mem_cons, List.not_mem_nil, or_false] at hv
 rcases hv with rfl | rfl | rfl <;> rfl
theorem flat_list : ∀ (D : List SdE) (t : Nat), t < D.length * 3 → (D.flatMap encE)[t]? = some ((encE (D.toArray[t / 3]!))[t % 3]!)
 | [], t, h => absurd h (by simp)
 | x :: D, t, h => by
  by_cases ht : t < 3
  ·have e1 : t / 3 = 0 := by omega
   have e2 : t % 3 = t := by omega
   rw [List.flatMap_cons, List.getElem?_append_left (by rw [encE_len]; exact ht), e1, e2]
   have e3 : (x :: D).toArray[0]! = x := by simp
   rw [e3, List.getElem?_eq_getElem (by rw [encE_len]; exact ht), getElem!_pos (encE x) t (by rw [encE_len]; exact ht)]
  ·obtain ⟨s, rfl⟩ : ∃ s, t = s + 3 := ⟨t - 3, by omega⟩
   rw [List.flatMap_cons, List.getElem?_append_right (by rw [encE_len]; omega), encE_len, Nat.add_sub_cancel, show (s + 3) / 3 = s / 3 + 1 from by omega, show (s + 3) % 3 = s % 3 from by omega]
   have hs : s < D.length * 3 := by simp at h; omega
   rw [flat_list D s hs]
   have e3 : (x :: D).toArray[s / 3 + 1]! = D.toArray[s / 3]! := by
    have q : s / 3 < D.length := by omega
    rw [getElem!_pos _ _ (by simpa using q), getElem!_pos _ _ (by simpa using q)]
    simp
   rw [e3]
theorem flat_eq (D : List SdE) : (flatK encE 3 D.toArray).toList = D.flatMap encE := by
 apply List.ext_getElem?
 intro t
 by_cases h : t < D.length * 3
 ·rw [flat_list D t h, Array.getElem?_toList]
  have h2 : t < (flatK encE 3 D.toArray).size := by simpa using h
  rw [Array.getElem?_eq_getElem h2, ← getElem!_pos _ t h2, get_flatK _ _ _ t (by simpa using h)]
 ·have l : (D.flatMap encE).length = D.length * 3 := by
   clear h
   induction D with
   | nil => rfl
   | cons x D ih => rw [List.flatMap_cons, List.length_append, ih, encE_len]; simp; omega
  rw [List.getElem?_eq_none (by simp; omega), List.getElem?_eq_none (by omega)]
theorem flat_length (D : List SdE) : (D.flatMap encE).length = D.length * 3 := by rw [← flat_eq]; simp
theorem holds_flat {w : World} {base g cap : Nat} {D : List SdE} (h : w.ownsRow base 100 3 (.slice (some ⟨g, 0, none⟩) D.length cap) D.length (D.flatMap encE)) : HoldsK encE 3 w g 0 D.toArray := by
 obtain ⟨h1, ⟨hv, _⟩ | ⟨g', cap', cur, hv, hg, hh, hn, hm, hs, ht⟩⟩ := h
 ·cases hv
 ·cases hv
  intro j hj
  have hj' : j < D.length * 3 := by simpa using hj
  have e : cur.toList[j]? = (D.flatMap encE)[j]? := by rw [← ht, List.getElem?_take_of_lt hj']
  rw [flat_list D j hj'] at e
  refine ⟨?_, by simp [World.frozen?, hh]⟩
  rw [get_flatK _ _ _ j (by simpa using hj'), Nat.zero_add]
  simp only [World.cell?, hh]
  simp only [Option.isSome_none, Bool.false_eq_true, if_false]
  rw [← Array.getElem?_toList, e]; rfl
theorem heap_putA {w : World} {g n : Nat} {os : Array Obj} {cur : Array Value} {e : TypeId} {fr : Nat × Nat} (d : Array Value) (hb : w.heap[g]? = some (.cells cur e fr)) :
  (grow (putRow id (Sort.ahead w n) g 0 d) os).heap[g]? = some (.cells (putCells id 0 d cur) e fr) := by
 have hg : g < w.heap.size := (Array.getElem?_eq_some_iff.1 hb).1;rw [heap_grow_old _ _ (by simpa using hg)]
 simp [putRow, mapBlock, Sort.ahead, Array.getElem?_modify, hb, onCells]
theorem grown_putA {w : World} {g n : Nat} {os : Array Obj} (d : Array Value) : w.grownBy (grow (putRow id (Sort.ahead w n) g 0 d) os) (some g) := by
 refine ⟨rfl, rfl, rfl, by simp, fun k hk hne => ?_⟩
 rw [heap_grow_old _ _ (by simpa using hk)];have : g ≠ k := fun e => hne (by rw [e])
 simp [putRow, mapBlock, Sort.ahead, Array.getElem?_modify, this]
theorem take_putA (cur : Array Value) (ts : Array Value) (k : Nat) (hk : k = ts.size) (h : ts.size ≤ cur.size) : (putCells id 0 ts cur).toList.take k = ts.toList := by
 subst hk
 apply List.ext_getElem?
 intro j
 by_cases hj : j < ts.size
 ·have h2 : j < cur.size := by omega
  rw [List.getElem?_take_of_lt hj, Array.getElem?_toList, Array.getElem?_toList]
  simp [putCells, hj, h2]
 ·rw [List.getElem?_take_eq_none (by omega), List.getElem?_eq_none (by simp; omega)]
theorem own_sorted {w : World} {base g cap n : Nat} {os : Array Obj} {D E : List SdE} (h : w.ownsRow base 100 3 (.slice (some ⟨g, 0, none⟩) D.length cap) D.length (D.flatMap encE)) (hl : E.length = D.length) :
  (sortWorldK encE 3 w g 0 n E.toArray os).ownsRow base 100 3 (.slice (some ⟨g, 0, none⟩) E.length cap) E.length (E.flatMap encE) := by
 obtain ⟨h1, ⟨hv, _⟩ | ⟨g', cap', cur, hv, hg, hh, hn, hm, hs, ht⟩⟩ := h
 ·cases hv
 ·cases hv
  refine ⟨flat_length E, .inr ⟨g, cap, _, rfl, hg, heap_putA _ hh, by omega, hm, by simp [putCells, hs], ?_⟩⟩
  rw [← flat_eq]
  exact take_putA cur _ _ (by simp) (by simp; omega)
theorem eLt_irrefl (x : Int × Int × List Int) : ¬ eLt x x := fun h => by unfold eLt at h; omega
theorem eLt_asymm {x y : Int × Int × List Int} (h : eLt x y) (k : eLt y x) : False := by unfold eLt at h k; omega
theorem rise_edges : ∀ {l m : List (Int × Int × List Int)}, l.Pairwise eLt → m.Pairwise eLt → (∀ x, x ∈ l ↔ x ∈ m) → l = m
 | [], [], _, _, _ => rfl
 | [], b :: m, _, _, h => absurd ((h b).2 (List.mem_cons_self ..)) (by simp)
 | a :: l, [], _, _, h => absurd ((h a).1 (List.mem_cons_self ..)) (by simp)
 | a :: l, b :: m, p, q, h => by
  obtain ⟨p1, p2⟩ := List.pairwise_cons.1 p;obtain ⟨q1, q2⟩ := List.pairwise_cons.1 q
  have e : a = b := by
   rcases List.mem_cons.1 ((h a).1 (List.mem_cons_self ..)) with e | e
   ·exact e
   ·rcases List.mem_cons.1 ((h b).2 (List.mem_cons_self ..)) with f | f
    ·exact f.symm
    ·exact (eLt_asymm (q1 a e) (p1 b f)).elim
  subst e
  congr 1
  refine rise_edges p2 q2 fun x => ⟨fun hx => ?_, fun hx => ?_⟩
  ·rcases List.mem_cons.1 ((h x).1 (List.mem_cons_of_mem _ hx)) with e | e
   ·have := p1 x hx; rw [e] at this; exact (eLt_irrefl _ this).elim
   ·exact e
  ·rcases List.mem_cons.1 ((h x).2 (List.mem_cons_of_mem _ hx)) with e | e
   ·have := q1 x hx; rw [e] at this; exact (eLt_irrefl _ this).elim
   ·exact e
def edS (S : Int → Int → List Int) (x : SdE) : Int × Int × List Int := (x.1, x.2.1, S x.1 x.2.1)
def edZ (S : Int → Int → List Int) (x : SdE) : EdZ := (x.1, x.2.1, S x.1 x.2.1, .slice x.2.2.1 x.2.2.2.1 x.2.2.2.2)
theorem cells_edZ (S : Int → Int → List Int) (D : List SdE) : cellsE (D.map (edZ S)) = D.flatMap encE := by
 unfold cellsE
 rw [List.flatMap_map]; rfl
theorem sorted_rise {S : Int → Int → List Int} {E : List SdE} (hk : (E.map fun x => (x.1, x.2.1)).Nodup) (hs : SortedIn (ltOf cfE) 0 E.toArray.size E.toArray) : (E.map (edS S)).Pairwise eLt := by
 rw [List.pairwise_map];rw [List.pairwise_iff_getElem]
 intro i j hi hj hij
 have z := hs i j (Nat.zero_le _) hij (by simpa using hj);rw [getElem!_pos _ i (by simpa using hi), getElem!_pos _ j (by simpa using hj), cfE_lt] at z
 simp only [List.getElem_toArray, decide_eq_false_iff_not] at z
 have ne : ¬ (E[i].1 = E[j].1 ∧ E[i].2.1 = E[j].2.1) := fun q => by
  have b1 : (E.map fun x => (x.1, x.2.1))[i]'(by simpa using hi) = (E.map fun x => (x.1, x.2.1))[j]'(by simpa using hj) := by simp [q.1, q.2]
  have := (List.getElem_inj hk).1 b1
  omega
 unfold eLt edS
 simp only
 omega
theorem edges_all {F : Nat → Nat → Int} {n m : Nat} {E : List SdE} (hF : ∀ i, i < n → ∀ j, j = 0 ∨ j = 3 ∨ j = 6 → 0 ≤ F i j ∧ F i j < (m : Int)) (hr : (E.map (edS (ownS F n))).Pairwise eLt)
  (h1 : ∀ x ∈ E, ownS F n x.1 x.2.1 ≠ []) (h2 : ∀ a c, ownS F n a c ≠ [] → ∃ x ∈ E, x.1 = a ∧ x.2.1 = c) : E.map (edS (ownS F n)) = eaL F n m m := by
 refine rise_edges hr (ea_rise F n m m) fun e => ?_
 rw [ea_iff, List.mem_map]
 constructor
 ·rintro ⟨x, hx, rfl⟩
  have z := h1 x hx;unfold edS;unfold ownS at z ⊢
  by_cases q : x.1 < x.2.1
  ·rw [if_pos q] at z ⊢
   obtain ⟨y, hy⟩ := List.exists_mem_of_ne_nil _ z;obtain ⟨k, hk, e, hh⟩ := th_mem.1 hy;have b := sdL_ok (m := (m : Int)) (p := (x.1, x.2.1)) (sdL_mem.2 ⟨q, hh⟩) (hF k hk 0 (.inl rfl)) (hF k hk 3 (.inr (.inl rfl))) (hF k hk 6 (.inr (.inr rfl)));obtain ⟨⟨b1, b2⟩, b3, b4⟩ := b
   simp only at b1 b2 b3 b4
   obtain ⟨A, hA⟩ : ∃ A : Nat, x.1 = (A : Int) := ⟨x.1.toNat, by omega⟩;obtain ⟨B, hB⟩ : ∃ B : Nat, x.2.1 = (B : Int) := ⟨x.2.1.toNat, by omega⟩
   refine ⟨A, B, by omega, by omega, by rw [← hA, ← hB], ?_⟩
   rw [← hA, ← hB]
   exact fun q => z (List.eq_nil_of_length_eq_zero q)
  ·rw [if_neg q] at z; exact absurd rfl z
 ·rintro ⟨A, B, hab, hb, rfl, hne⟩
  have q : (A : Int) < (B : Int) := by omega
  have z : ownS F n A B ≠ [] := fun e => hne (by unfold ownS at e; rw [if_pos q] at e; rw [e]; rfl);obtain ⟨x, hx, e1, e2⟩ := h2 A B z
  refine ⟨x, hx, ?_⟩
  unfold edS;rw [e1, e2];unfold ownS;rw [if_pos q]
end Go.Proofs.YtcnbbanpnoigdaaGreat
namespace Go.Proofs.YtcnbbanpnoigdaaGreat
open Go.RowKit Go.Sort

theorem fits_len {α : Type} [DecidableEq α] : ∀ {l m : List α}, l.Nodup → (∀ x ∈ l, x ∈ m) → l.length ≤ m.length
 | [], _, _, _ => Nat.zero_le _
 | a :: l, m, hn, h => by
  obtain ⟨h1, h2⟩ := List.nodup_cons.1 hn;have ha := h a (List.mem_cons_self ..);have z := fits_len (m := m.erase a) h2 fun x hx => (List.mem_erase_of_ne (fun e => h1 (by rw [← e]; exact hx))).2 (h x (List.mem_cons_of_mem _ hx));rw [List.length_erase_of_mem ha] at z;have := List.length_pos_of_mem ha;rw [List.length_cons]
  omega
theorem own_sortE (base : Nat) (v : Value) (D : List SdE) (w : World) (h : w.ownsRow base 100 3 v D.length (D.flatMap encE)) (hl : D.length ≤ 1000000) :
  Calls Tryz.prog 79 #[v, .func (.func 80) #[] #[]] w fun e w' => e = .returned (.tuple #[]) ∧ ∃ E : List SdE, E.Perm D ∧ SortedIn (ltOf cfE) 0 E.toArray.size E.toArray ∧ w'.ownsRow base 100 3 v E.length (E.flatMap encE) ∧ w.grownBy w' v.ownBlock := by
 have h' := h;obtain ⟨h1, ⟨rfl, h0⟩ | ⟨g, cap, cur, rfl, hg, hh, hn, hm, hs, ht⟩⟩ := h
 ·have e : D = [] := List.eq_nil_of_length_eq_zero h0
  subst e
  refine (AnyF.slices_SortFunc_none (P := Tryz.prog) (ρ := Tryz.laysSortF_ren) Tryz.laysSortF none 0 (.func (.func 80) #[] #[]) w).mono ?_
  rintro e w' ⟨rfl, rfl⟩
  exact ⟨rfl, [], .refl _, fun i j _ _ hj => absurd hj (by simp), h', World.grownBy.refl _ _⟩
 ·have z := AnyQ.slices_SortFunc (P := Tryz.prog) (ρ := Tryz.laysSortF_ren) Tryz.laysSortF 3 (fun w => by kernel_rfl) (fun w => by kernel_rfl) encE encE_len encE_one cfE swoE 80 #[] g 0 cap D.toArray w eg_sorts (laysE g 0 D.toArray.size w) (holds_flat h') (Array.getElem?_eq_some_iff.1 hh).1 (by simp; omega)
  rw [show D.toArray.size = D.length from by simp] at z
  refine z.mono ?_
  rintro e w' ⟨rfl, d', n, os, ⟨p1, p2, p3⟩, hso, rfl⟩
  have hl2 : d'.toList.length = D.length := by rw [Array.length_toList, p1]; simp
  have ex : ∀ x : Array SdE, x.size = D.length → x.extract 0 D.length = x := fun x hx => by rw [← hx]; simp
  rw [ex d' (by simpa using hl2), ex D.toArray (by simp)] at p3
  refine ⟨rfl, d'.toList, by simpa using p3, ?_, ?_, ?_⟩
  ·rw [Array.toArray_toList, show d'.size = D.length from by simpa using hl2]
   exact hso
  ·have q := own_sorted (n := n) (os := os) h' hl2
   rw [Array.toArray_toList] at q;rw [hl2] at q ⊢
   exact q
  ·exact grown_putA _
theorem map_facts {w : World} {base b n1 n4 : Nat} {N : Nat → Prop} {FC : Nat → Nat → Int} (h : MapG w base b N (ownS FC n4)) (hF : ∀ i, i < n4 → ∀ j, j = 0 ∨ j = 3 ∨ j = 6 → 0 ≤ FC i j ∧ FC i j < (n1 : Int)) (h20 : n1 ≤ 20) :
  ∃ es clock, w.heap[b]? = some (.map es clock) ∧ MapKept.Stamped es clock ∧ (∀ e ∈ es.toList, ∃ a c : Int, e.key = keyV a c ∧ ownS FC n4 a c ≠ [] ∧ OwnI w base e.val (ownS FC n4 a c)) ∧ (∀ a c, ownS FC n4 a c ≠ [] → ∃ e ∈ es.toList, e.key = keyV a c) ∧
   (∀ x ∈ es.toList, ∀ y ∈ es.toList, x.key ≠ y.key → ∀ g, x.val.ownBlock = some g → y.val.ownBlock ≠ some g) ∧ es.toList.length ≤ 400 ∧ ((es.toList.map toSd).map fun x => (x.1, x.2.1)).Nodup := by
 obtain ⟨es, clock, h1, h2, h3, h4, h5, h6, h7⟩ := h
 have hk : ((es.toList.map toSd).map fun x => (x.1, x.2.1)).Nodup := by
  rw [List.map_map];have z := h2.2.2;rw [List.nodup_iff_pairwise_ne, List.pairwise_map] at z ⊢
  refine z.imp_of_mem fun {x y} hx hy ne e => ne ?_
  obtain ⟨a, c, q1, _⟩ := h4 x hx;obtain ⟨a', c', q2, _⟩ := h4 y hy
  simp only [Function.comp, toSd, q1, q2, kA_key, Prod.mk.injEq] at e
  rw [q1, q2, e.1, e.2]
 refine ⟨es, clock, h1, h2, fun e he => ?_, h5, h6, ?_, hk⟩
 ·obtain ⟨a, c, q1, q2, q3, q4⟩ := h4 e he
  exact ⟨a, c, q1, q3, q4⟩
 ·have z := fits_len (m := (eaL FC n4 n1 n1).map fun e => (e.1, e.2.1)) hk fun x hx => by
   rw [List.map_map, List.mem_map] at hx;obtain ⟨e, he, rfl⟩ := hx;obtain ⟨a, c, q1, q2, q3, q4⟩ := h4 e he
   simp only [Function.comp, toSd, q1, kA_key]
   rw [List.mem_map];have z := q3;unfold ownS at z
   by_cases q : a < c
   ·rw [if_pos q] at z
    obtain ⟨y, hy⟩ := List.exists_mem_of_ne_nil _ z;obtain ⟨k, hk, e, hh⟩ := th_mem.1 hy;obtain ⟨⟨b1, b2⟩, b3, b4⟩ := sdL_ok (m := (n1 : Int)) (p := (a, c)) (sdL_mem.2 ⟨q, hh⟩) (hF k hk 0 (.inl rfl)) (hF k hk 3 (.inr (.inl rfl))) (hF k hk 6 (.inr (.inr rfl)))
    simp only at b1 b2 b3 b4
    obtain ⟨A, rfl⟩ : ∃ A : Nat, a = (A : Int) := ⟨a.toNat, by omega⟩;obtain ⟨B, rfl⟩ : ∃ B : Nat, c = (B : Int) := ⟨c.toNat, by omega⟩
    exact ⟨_, ea_iff.2 ⟨A, B, by omega, by omega, rfl, fun q => z (List.eq_nil_of_length_eq_zero q)⟩, rfl⟩
   ·rw [if_neg q] at z; exact absurd rfl z
  simp only [List.length_map] at z
  have l := eaL_len FC n4 n1 n1;have : n1 * n1 ≤ 20 * 20 := Nat.mul_le_mul h20 h20
  omega
end Go.Proofs.YtcnbbanpnoigdaaGreat
namespace Go.Proofs.YtcnbbanpnoigdaaGreat
open Go.RowKit Go.Sort

theorem ms_rng1 {n1 n2 n3 n4 : Nat} {FV FT FN FC : Nat → Nat → Int} (hr : msB n1 n2 n3 n4 FV FT FN FC = true) : ∀ i, i < n4 → ∀ j, j = 0 ∨ j = 3 ∨ j = 6 → 0 ≤ FC i j ∧ FC i j < (n1 : Int) := by
 unfold msB at hr;rw [Bool.and_eq_true, Bool.and_eq_true, Bool.and_eq_true, Bool.and_eq_true] at hr
 intro i hi j hj
 have t := (allB_iff _ _).1 hr.2.2.2.2 i hi;have t2 := fun k (hk : k < 3) => (cnB_iff.1 ((allB_iff _ _).1 t k hk)).1
 rcases hj with rfl | rfl | rfl
 ·exact t2 0 (by omega)
 ·exact t2 1 (by omega)
 ·exact t2 2 (by omega)
set_option maxRecDepth 100000 in
set_option maxHeartbeats 16000000 in
theorem edgesE_any (pa1 pa2 pa3 pa4 : Option Addr) (n1 n2 n3 n4 c1 c2 c3 c4 : Nat) (FV FT FN FC : Nat → Nat → Int) (w : World) (hm : MsW w pa1 pa2 pa3 pa4 n1 n2 n3 n4 FV FT FN FC) (h20 : n1 ≤ 20) :
  Calls Tryz.prog 55 #[.agg #[.slice pa1 n1 c1, .slice pa2 n2 c2, .slice pa3 n3 c3, .slice pa4 n4 c4]] w fun e w' => (∃ v Z, e = .returned (.tuple #[v, .int .i64 (agE (msB n1 n2 n3 n4 FV FT FN FC))]) ∧ OwnE w' w.heap.size v Z ∧ Z.map edC = egA (msB n1 n2 n3 n4 FV FT FN FC) FC n4 n1) ∧ Below w.heap.size w w' := by
 have HB := Lib.hid (Below.refl w.heap.size w);have M := Lib.hid hm;have IS := Lib.hid (fun W (h : Below w.heap.size w W) => mis_any pa1 pa2 pa3 pa4 n1 n2 n3 n4 c1 c2 c3 c4 FV FT FN FC W (hm.keep h));clear hm
 cases hr : msB n1 n2 n3 n4 FV FT FN FC with
 | false =>
  rw [hr] at IS;clear hr;rw [show agE false = 1 from rfl, show egA false FC n4 n1 = [] from rfl]
  go_enter Tryz.func55, Tryz.ntmps55
  go_upto_region 1 with fail
  have hbm := below_new1 w (.cells #[.slice pa1 n1 c1, .slice pa2 n2 c2, .slice pa3 n3 c3, .slice pa4 n4 c4] 26)
  have zm : (w.alloc (.cells #[.slice pa1 n1 c1, .slice pa2 n2 c2, .slice pa3 n3 c3, .slice pa4 n4 c4] 26)).heap.size = w.heap.size + 1 := by simp
  have HB := Lib.hid hbm;have km := Lib.hid (Lok.new w 26 #[.slice pa1 n1 c1, .slice pa2 n2 c2, .slice pa3 n3 c3, .slice pa4 n4 c4]);clear hbm;generalize w.alloc (.cells #[.slice pa1 n1 c1, .slice pa2 n2 c2, .slice pa3 n3 c3, .slice pa4 n4 c4] 26) = Vm at *;clear zm;have m0 := km.out.cell (i := 0) rfl;have m1 := km.out.cell (i := 1) rfl;have m2 := km.out.cell (i := 2) rfl;have m3 := km.out.cell (i := 3) rfl
  go_wp2_with fail
  clear m0 m1 m2 m3
  (((with_reducible refine (IS.out _ HB.out).mono ?_); rintro e w1 ⟨rfl, hb1⟩); replace HB := Lib.hid (HB.out.trans (hb1.mono HB.out.size)); replace km := Lib.hid (km.out.keep hb1); clear hb1)
  clear IS;clear km
  go_wp2
  go_ret2
  exact ⟨⟨_, [], rfl, OwnE.nil _ _, rfl⟩, HB.out⟩
 | true =>
  rw [hr] at IS;obtain ⟨h500, hF⟩ := ms_rng hr;have hF1 := Lib.hid (ms_rng1 hr);clear hr;rw [show agE true = 0 from rfl, show egA true FC n4 n1 = eaL FC n4 n1 n1 from rfl];have OW := Lib.hid (fun W (h : Below w.heap.size w W) => owners_any pa1 pa2 pa3 pa4 n1 n2 n3 n4 c1 c2 c3 c4 FV FT FN FC W (M.out.keep h) hF (by omega));clear hF M
  go_enter Tryz.func55, Tryz.ntmps55
  go_upto_region 1 with fail
  have hbm := below_new1 w (.cells #[.slice pa1 n1 c1, .slice pa2 n2 c2, .slice pa3 n3 c3, .slice pa4 n4 c4] 26)
  have zm : (w.alloc (.cells #[.slice pa1 n1 c1, .slice pa2 n2 c2, .slice pa3 n3 c3, .slice pa4 n4 c4] 26)).heap.size = w.heap.size + 1 := by simp
  have HB := Lib.hid hbm;have km := Lib.hid (Lok.new w 26 #[.slice pa1 n1 c1, .slice pa2 n2 c2, .slice pa3 n3 c3, .slice pa4 n4 c4]);clear hbm;generalize w.alloc (.cells #[.slice pa1 n1 c1, .slice pa2 n2 c2, .slice pa3 n3 c3, .slice pa4 n4 c4] 26) = Vm at *;clear zm;have m0 := km.out.cell (i := 0) rfl;have m1 := km.out.cell (i := 1) rfl;have m2 := km.out.cell (i := 2) rfl;have m3 := km.out.cell (i := 3) rfl
  go_wp2_with fail
  clear m0 m1 m2 m3
  (((with_reducible refine (IS.out _ HB.out).mono ?_); rintro e w1 ⟨rfl, hb1⟩); replace HB := Lib.hid (HB.out.trans (hb1.mono HB.out.size)); replace km := Lib.hid (km.out.keep hb1); clear hb1)
  clear IS;have m0 := km.out.cell (i := 0) rfl;have m1 := km.out.cell (i := 1) rfl;have m2 := km.out.cell (i := 2) rfl;have m3 := km.out.cell (i := 3) rfl
  go_wp2_with fail
  ((with_reducible refine (OW.out _ HB.out).mono ?_); rintro e w5 ⟨⟨b, base, rfl, hbl, hG⟩, hb5⟩);clear m0 m1 m2 m3 OW km;have hbl2 : w.heap.size ≤ b := Nat.le_trans HB.out.size hbl;replace HB := Lib.hid (HB.out.trans (hb5.mono HB.out.size));clear hb5 hbl;have hbase := hG.lt;obtain ⟨es, clock, hes, hst, f1, f2, f3, f4, f5⟩ := map_facts hG hF1.out h20;have E1 := Lib.hid f1;have E2 := Lib.hid f2;have E3 := Lib.hid f3;have E5 := Lib.hid f5;have HES := Lib.hid hes;have HST := Lib.hid hst;clear f1 f2 f3 f5 hG hes hst
  go_wp2_with (refine wpList_rangeG rfl _ rfl (b := b) (es := es) (clock := clock) rfl HES.out HST.out ?_)
  intro w6 hI6 hb6 hz6
  have I6 := Lib.hid hI6;have B6 := Lib.hid hb6;clear hI6 hb6 HES HST;obtain ⟨H1, hH1⟩ : ∃ H, H = w5.heap.size := ⟨_, rfl⟩;rw [← hH1] at I6 B6 hz6 hbase;rw [← hH1];have hw5 := HB.out.size;rw [← hH1] at hw5;have HH := Lib.hid hH1;clear hH1
  go_wp2_with fail
  go_loopw [4] (fun v wr => ∃ (D : List SdE) (seen : Array Nat), (D ++ (leftOf es seen).toList.map toSd).Perm (es.toList.map toSd) ∧ wr.ownsRow (H1 + 1) 100 3 v D.length (D.flatMap encE) ∧ ItrG wr H1 b es seen ∧ Below H1 w5 wr) (fun _ wr => seenN wr H1 es)
  case atStart =>
   refine ⟨[], #[], ?_, World.ownsRow_nil _ _ _ _, I6.out, B6.out⟩
   rw [show leftOf es #[] = es from by unfold leftOf; simp]
   exact .refl _
  case round =>
   clear I6 B6;obtain ⟨D, seen, hp, hO, hI, hB⟩ := hrel;have HP := Lib.hid hp;have OD := Lib.hid hO;have II := Lib.hid hI;have BV := Lib.hid hB
   have hdl : D.length ≤ 400 := by
    have := hp.length_eq;rw [List.length_append, List.length_map, List.length_map] at this
    omega
   have hcnt := hI.count;clear hp hO hI hB
   go_wp2_with (refine wpList_nextG rfl _ rfl (r := H1) (b := b) (es := es) (seen := seen) rfl II.out ?_ ?_)
   ·intro h0
    have hempty : (leftOf es seen).toList = [] := List.eq_nil_of_length_eq_zero (by simpa using h0)
    have P2 : D.Perm (es.toList.map toSd) := by
     have z := HP.out;rw [hempty, List.map_nil, List.append_nil] at z
     exact z
    have HP2 := Lib.hid P2;have SO := Lib.hid (own_sortE (H1 + 1) u4 D wr OD.out (by omega));clear HP P2 hempty h0 hcnt II
    go_wp2_with fail
    ((with_reducible refine SO.out.mono ?_); rintro e w7 ⟨rfl, E, hp2, hso, hO7, hg7⟩);have B7 := Lib.hid (BV.out.grown hg7 (by have := BV.out.size; have := HH.out; omega) (fun g hg => by have := (World.ownsRow.lt hO7 g hg).1; omega));have O7 := Lib.hid hO7;have PE := Lib.hid (hp2.trans HP2.out);have SE := Lib.hid hso;clear SO hp2 hso hO7 hg7 HP2 OD BV
    have FIN : Hid (OwnE w7 w.heap.size u4 (E.map (edZ (ownS FC n4))) ∧ (E.map (edZ (ownS FC n4))).map edC = eaL FC n4 n1 n1) := Lib.hid (by
     have hmem : ∀ x ∈ E, ∃ e ∈ es.toList, toSd e = x := fun x hx => List.mem_map.1 ((PE.out.mem_iff).1 hx);have hkey : (E.map fun x => (x.1, x.2.1)).Nodup := ((PE.out.map (fun x => (x.1, x.2.1))).nodup_iff).2 E5.out
     refine ⟨⟨?_, ?_⟩, ?_⟩
     ·rw [cells_edZ, List.length_map]
      exact ownR_mono O7.out (by omega)
     ·intro z hz
      obtain ⟨x, hx, rfl⟩ := List.mem_map.1 hz;obtain ⟨e, he, rfl⟩ := hmem x hx;obtain ⟨a, c, q1, q2, q3⟩ := E1.out e he;obtain ⟨p, n, cc, ev⟩ := ownI_slice q3
      have e1 : (edZ (ownS FC n4) (toSd e)).2.2.2 = e.val := by
       show Value.slice (slP e.val).1 (slP e.val).2.1 (slP e.val).2.2 = e.val
       rw [ev]; rfl
      have e2 : (edZ (ownS FC n4) (toSd e)).2.2.1 = ownS FC n4 a c := by
       show ownS FC n4 (kA e.key).1 (kA e.key).2 = _
       rw [q1, kA_key]
      rw [e1, e2]
      refine ⟨ownI_mono (ownI_block q3 fun g hg => B7.out.block g (by have := (World.ownsRow.lt q3 g hg).2; have := HH.out; omega)) (by omega), fun g hg hv => ?_⟩
      have h1 := (World.ownsRow.lt q3 g hg).2;have h2 := (World.ownsRow.lt O7.out g hv).1;have h3 := HH.out
      omega
     ·have z := edges_all hF1.out (sorted_rise (S := ownS FC n4) hkey SE.out) (fun x hx => by
       obtain ⟨e, he, rfl⟩ := hmem x hx;obtain ⟨a, c, q1, q2, _⟩ := E1.out e he
       show ownS FC n4 (kA e.key).1 (kA e.key).2 ≠ []
       rw [q1, kA_key]; exact q2) (fun a c hne => by
       obtain ⟨e, he, q⟩ := E2.out a c hne
       refine ⟨toSd e, (PE.out.mem_iff).2 (List.mem_map.2 ⟨e, he, rfl⟩), ?_, ?_⟩
       ·show (kA e.key).1 = a; rw [q, kA_key]
       ·show (kA e.key).2 = c; rw [q, kA_key])
      rw [List.map_map]
      exact z)
    have BF := Lib.hid (HB.out.trans (B7.out.mono hw5));clear PE SE O7 B7
    go_wp2
    go_ret2
    exact ⟨⟨_, _, rfl, FIN.out.1, FIN.out.2⟩, BF.out⟩
   ·intro e w7 he hI7 hg7 hen
    replace he : e ∈ (leftOf es seen).toList := by simpa using he
    obtain ⟨a, c, q1, q2, q3⟩ := E1.out e (mem_left he).1;obtain ⟨pv, nv, cv, ev⟩ := ownI_slice q3;have hpl := left_perm (by obtain ⟨_, _, _, _, _, _, _, _, h5, _⟩ := II.out; exact h5) he;have hlt := left_shrinks es seen e he
    have P7 : Hid (((D ++ [toSd e]) ++ (leftOf es (seen.push e.born)).toList.map toSd).Perm (es.toList.map toSd)) := Lib.hid (by
     refine List.Perm.trans ?_ HP.out
     rw [List.append_assoc]
     exact ((hpl.map toSd).symm.append_left D))
    have TS : Hid (encE (toSd e) = [.int .i64 a, .int .i64 c, .slice pv nv cv]) := Lib.hid (by
     show [Value.int .i64 (kA e.key).1, .int .i64 (kA e.key).2, .slice (slP e.val).1 (slP e.val).2.1 (slP e.val).2.2] = _
     rw [q1, kA_key, ev]; rfl)
    have hbz := HB.out.size
    replace OD := Lib.hid (World.ownsRow.kept OD.out hg7 (by
     cases hv : u4.ownBlock with
     | none => exact .inl rfl
     | some g => exact .inr (fun q => by have := (World.ownsRow.lt OD.out g hv).1; injection q with q; omega)))
    replace BV := Lib.hid (BV.out.grown hg7 (by have := BV.out.size; have := HH.out; omega) (fun g hg => by injection hg with hg; omega));replace II := Lib.hid hI7;rw [q1, ev] at hen;rw [q1, ev];have hc0 := II.out.count;have HC : Hid (seenN wr H1 es = (leftOf es seen).size ∧ (leftOf es (seen.push e.born)).size < (leftOf es seen).size) := Lib.hid ⟨hcnt, hlt⟩;generalize toSd e = sd at *;have hrlt : H1 < w7.heap.size := II.out.lt.1;clear hpl hI7 hg7 hcnt hlt hc0 q1 q2 q3 HP he ev;unfold keyV at hen ⊢
    go_upto_region 7 with fail
    have hbt := Lib.hid ((Below.refl w7.heap.size w7).alloc (Nat.le_refl _) (.cells #[.int .i64 a, .int .i64 c] 121));have kt := Lib.hid (Lok.new w7 121 #[.int .i64 a, .int .i64 c]);replace OD := Lib.hid (ownK_keep OD.out hbt.out);replace II := Lib.hid (II.out.keepB hbt.out hrlt II.out.lt.2);replace BV := Lib.hid (BV.out.trans (hbt.out.mono (by omega)))
    have hsz : H1 + 1 ≤ (w7.alloc (.cells #[.int .i64 a, .int .i64 c] 121)).heap.size := by simp; omega
    clear hen hbt;generalize w7.alloc (.cells #[.int .i64 a, .int .i64 c] 121) = V7 at *;generalize w7.heap.size = g7 at *;have t0 := kt.out.cell (i := 0) rfl;have t1 := kt.out.cell (i := 1) rfl;have k1 : Hid ((D.length + 1) * 40 ≤ 140737488355328) := Lib.hid (by omega);have k2 : Hid (D.length ≤ 1000000) := Lib.hid (by omega)
    have k3 : Hid (∀ u ∈ [Value.int .i64 a, .int .i64 c, .slice pv nv cv], u.oneCell' = true) := Lib.hid (by
     intro u hu
     simp only [List.mem_cons, List.not_mem_nil, or_false] at hu
     rcases hu with rfl | rfl | rfl
     ·rfl
     ·rfl
     ·rfl)
    go_wp2_with (at_builtin; refine app_one rfl _ _ 96 100 (.agg #[.int .i64 0, .int .i64 0, .slice none 0 0]) 3 40 Tryz.underlying96 infoE rfl (by decide) rfl (H1 + 1) u4 D.length (D.flatMap encE) [.int .i64 a, .int .i64 c, .slice pv nv cv] rfl k3.out rfl OD.out rfl k1.out k2.out hsz ?_)
    intro v8 w8 hO8 hb8
    have O8 : Hid (w8.ownsRow (H1 + 1) 100 3 v8 (D ++ [sd]).length ((D ++ [sd]).flatMap encE)) := Lib.hid (by
     rw [List.flatMap_append, List.length_append, List.flatMap_cons, List.flatMap_nil, List.append_nil, TS.out]
     exact hO8)
    have I8 := Lib.hid (II.out.keepB hb8 (by omega) (by omega));have B8 := Lib.hid (BV.out.trans (hb8.mono (by omega)));have C8 := Lib.hid I8.out.count;clear hO8 hb8 t0 t1 kt OD II BV k1 k2 k3
    go_wp2
    go_roundw
    case rel => exact ⟨_, _, P7.out, O8.out, I8.out, B8.out⟩
    case measure => rw [C8.out, HC.out.1]; exact HC.out.2
end Go.Proofs.YtcnbbanpnoigdaaGreat
namespace Go.Proofs.YtcnbbanpnoigdaaGreat
open Go.RowKit

def AbP (lo : Nat) (V W : World) : Prop := V.heap.size ≤ W.heap.size ∧ ∀ k, lo ≤ k → k < V.heap.size → W.heap[k]? = V.heap[k]?
theorem AbP.refl (lo : Nat) (V : World) : AbP lo V V := ⟨Nat.le_refl _, fun _ _ _ => rfl⟩
theorem AbP.keep {lo : Nat} {V W W' : World} (h : AbP lo V W) (hb : Below W.heap.size W W') : AbP lo V W' := ⟨Nat.le_trans h.1 hb.size, fun k h1 h2 => (hb.block k (Nat.lt_of_lt_of_le h2 h.1)).trans (h.2 k h1 h2)⟩
theorem AbP.set {lo : Nat} {V W : World} (h : AbP lo V W) {g i : Nat} (hg : g < lo) (x : Value) : AbP lo V (W.setCell ⟨g, i, none⟩ x) := ⟨by simpa using h.1, fun k h1 h2 => (Below.heap_setCell W ⟨g, i, none⟩ x k (by show k ≠ g; omega)).trans (h.2 k h1 h2)⟩
theorem AbP.grown {lo : Nat} {V W W' : World} {row : Option Nat} (h : AbP lo V W) (hg : W.grownBy W' row) (hr : ∀ g, row = some g → V.heap.size ≤ g) : AbP lo V W' := ⟨Nat.le_trans h.1 hg.size, fun k h1 h2 => (hg.block k (Nat.lt_of_lt_of_le h2 h.1) (fun e => by have := hr k e.symm; omega)).trans (h.2 k h1 h2)⟩
end Go.Proofs.YtcnbbanpnoigdaaGreat
