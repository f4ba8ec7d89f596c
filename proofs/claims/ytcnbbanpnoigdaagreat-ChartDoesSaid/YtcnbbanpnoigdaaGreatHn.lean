import Derived.Test.YtcnbbanpnoigdaaGreatHl
import Derived.Test.YtcnbbanpnoigdaaGreatHm
import Derived.Test.YtcnbbanpnoigdaaGreatHd
import Derived.BigQuiet
import Derived.Lib.SliceRun
import Derived.BigFrame
namespace Go.Proofs.YtcnbbanpnoigdaaGreat
open Go.RowKit

namespace GrC
variable {C : GrC} {W W' : World} {tk : Nat → Bool} {ax sd : Int} {v : Value} {rc : Nat → Bool} {op : Nat → Nat}
theorem St.facAt (h : C.St W tk ax sd v rc op) {i : Nat} (hi : i < C.n) : ∃ gf cap, C.fv = .slice (some ⟨gf, 0, none⟩) C.n cap ∧ gf < W.heap.size ∧ W.cell? ⟨gf, i * 3, none⟩ = some (.int .i64 (C.A i)) ∧ W.cell? ⟨gf, i * 3 + 1, none⟩ = some (.int .i64 (C.S i)) ∧ W.cell? ⟨gf, i * 3 + 2, none⟩ = some (.bool (C.K i)) := by
 have hf := h.st.fac;have hc := fun (g : Nat) (hg : C.fv.ownBlock = some g) => hf.cells hg;have hl := hf.lt;obtain ⟨h1, ⟨_, h0⟩ | ⟨gf, cap, cur, hv, _⟩⟩ := hf
 ·omega
 ·have hb : C.fv.ownBlock = some gf := by rw [hv]; rfl
  obtain ⟨a, b, c⟩ := fcL_at (A := C.A) (S := C.S) (K := C.K) hi;have a' := hc gf hb _ _ a;have b' := hc gf hb _ _ b;have c' := hc gf hb _ _ c
  simp only [Go.WideShapes.add_plain, Nat.zero_add] at a' b' c'
  exact ⟨gf, cap, hv, (hl gf hb).2, a', b', c'⟩
theorem St.takAt (h : C.St W tk ax sd v rc op) {i : Nat} (hi : i < C.n) : W.cell? ⟨C.tb, i, none⟩ = some (.bool (tk i)) ∧ W.frozen? ⟨C.tb, i, none⟩ = false := ⟨h.tak.cell (rwL_at _ hi), h.tak.frozen i⟩
theorem St.reaAt (h : C.St W tk ax sd v rc op) {i : Nat} (hi : i < C.N) : W.cell? ⟨C.rb, i, none⟩ = some (.bool (rc i)) ∧ W.frozen? ⟨C.rb, i, none⟩ = false := ⟨h.rea.cell (rwL_at _ hi), h.rea.frozen i⟩
theorem St.opeAt (h : C.St W tk ax sd v rc op) {i : Nat} (hi : i < C.n) : W.cell? ⟨C.ob, i, none⟩ = some (.int .i64 (op i : Int)) ∧ W.frozen? ⟨C.ob, i, none⟩ = false := ⟨h.ope.cell (rwL_at _ hi), h.ope.frozen i⟩
theorem St.edgAt (h : C.St W tk ax sd v rc op) {i : Nat} (hi : i < C.n) : ∃ a m c, C.ec i = .slice a m c ∧ (C.E i).length = m ∧ W.cell? ⟨C.eb, i, none⟩ = some (.slice a m c) ∧ RowI W a m (C.E i) := by
 obtain ⟨a, c, e, _, _, _, hr⟩ := rowI_of_own (h.st.own i hi)
 exact ⟨a, _, c, e, rfl, by rw [← e]; exact h.st.edg.cell (rwL_at _ hi), hr⟩
end GrC
set_option maxRecDepth 100000 in
set_option maxHeartbeats 4000000 in
theorem waits_any (C : GrC) (tk : Nat → Bool) (ax sd : Int) (v : Value) (rc : Nat → Bool) (op : Nat → Nat) (i : Nat) (w : World) (h : C.St w tk ax sd v rc op) (hi : i < C.n) :
  Calls Tryz.prog 31 #[.pointer (some ⟨C.g, 0, none⟩), .int .i64 i] w fun e w' => e = .returned (.bool (C.K i && !tk i)) ∧ Below w.heap.size w w' := by
 have HB := Lib.hid (Below.refl w.heap.size w);obtain ⟨gf, cap, hv, _, f0, f1, f2⟩ := h.facAt hi;have c1 := h.gro.cell (i := 1) (v := .slice (some ⟨gf, 0, none⟩) C.n cap) (by rw [← hv]; rfl);have c3 := h.gro.cell (i := 3) (v := .slice (some ⟨C.tb, 0, none⟩) C.n C.n) rfl;have t0 := (h.takAt hi).1
 have i0 : (0 : Int) ≤ (i : Int) := by omega
 have i1 : (i : Int) < (C.n : Int) := by omega
 have i2 : ((i : Int)).toNat = i := by omega
 clear h hv f0 f1 hi;generalize C.n = n at *;generalize C.g = g at *;generalize C.tb = tb at *;generalize tk i = t at *;generalize C.K i = kk at *
 cases kk with
 | false =>
  clear c3 t0;rw [Bool.false_and]
  go_enter Tryz.func31, Tryz.ntmps31
  go_wp2
  go_ret
  exact ⟨rfl, HB.out⟩
 | true =>
  rw [Bool.true_and]
  go_enter Tryz.func31, Tryz.ntmps31
  go_wp2
  go_ret
  exact ⟨rfl, HB.out⟩
def q21 (a b : Int) (c : Bool) (d e : Int) (f : Bool) : Bool := a == d && (b == e && c == f)
theorem q21_iff {a b d e : Int} {c f : Bool} : q21 a b c d e f = true ↔ a = d ∧ b = e ∧ c = f := by unfold q21; simp
set_option maxRecDepth 100000 in
@[go_sem high] theorem eql_facing (w : World) (a b : Int) (c : Bool) (d e : Int) (f : Bool) : (binOp .eql 53 (.agg #[.int .i64 a, .int .i64 b, .bool c]) (.agg #[.int .i64 d, .int .i64 e, .bool f])).run Tryz.prog w = .ok (.bool (q21 a b c d e f)) w := by
 unfold q21
 by_cases h1 : a = d
 ·subst h1
  by_cases h2 : b = e
  ·subst h2
   by_cases h3 : c = f
   ·subst h3; simp [go_sem]
   ·have e3 : (c == f) = false := by rw [beq_eq_false_iff_ne]; exact h3
    simp [go_sem, e3]
  ·have e2 := beq_no h2
   simp [go_sem, e2]
 ·have e1 := beq_no h1
  simp [go_sem, e1]
set_option maxRecDepth 100000 in
set_option maxHeartbeats 8000000 in
theorem looks_any (pa1 pa2 pa3 pa4 : Option Addr) (n1 n2 n3 n4 c1 c2 c3 c4 : Nat) (C : GrC) (hn : C.n = n4) (hmc : C.mc = mshC pa1 pa2 pa3 pa4 n1 n2 n3 n4 c1 c2 c3 c4) (tk : Nat → Bool) (ax sd : Int) (v : Value) (rc : Nat → Bool) (op : Nat → Nat) (i : Int) (w : World) (h : C.St w tk ax sd v rc op) :
  Calls Tryz.prog 36 #[.pointer (some ⟨C.g, 0, none⟩), .int .i64 i] w fun e w' => e = .returned (.bool (plB i n4 && q21 (C.A i.toNat) (C.S i.toNat) (C.K i.toNat) ax sd true)) ∧ Below w.heap.size w w' := by
 have HB := Lib.hid (Below.refl w.heap.size w);have L := Lib.hid h.st.land;rw [hmc] at L;have HA := Lib.hid (fun D : Of (PastV w) => has_any pa1 pa2 pa3 pa4 n1 n2 n3 n4 c1 c2 c3 c4 C.gl i D.world (L.out.keep (show Below w.heap.size w D.world from D.holds)));have G := Lib.hid h.gro;have ST := Lib.hid (pastV_stays w);have ne : Nonempty (Of (PastV w)) := ⟨⟨w, Below.refl _ _⟩⟩;have d0 : ∀ D : Of (PastV w), _ := fun D => (G.out.keep (show Below w.heap.size w D.world from D.holds)).cell (i := 0) (v := .pointer (some ⟨C.gl, 0, none⟩)) rfl
 cases hp : plB i n4 with
 | false =>
  rw [hp] at HA;rw [Bool.false_and];clear h hmc hn hp G;generalize C.g = g at *;generalize C.gl = gl at *
  go_enter Tryz.func36, Tryz.ntmps36
  go_upto_region 1 with fail
  refine wp_region_class (S := PastV w) (by kernel_rfl) (by kernel_rfl) (Below.refl _ _).drew ?_
  repeat (go_big_quiet_step (first | (go_at_call 22; first | (with_reducible exact class_call ST.out _ (HA.out _)))))
  refine wpQuiet_nil ?_
  rintro _ ⟨D, rfl⟩
  have hD : Below w.heap.size w D.world := D.holds
  go_wp2
  go_ret
  exact ⟨rfl, hD⟩
 | true =>
  rw [hp] at HA;rw [Bool.true_and];have pl := plB_iff.1 hp;obtain ⟨k, rfl⟩ : ∃ k : Nat, i = (k : Int) := ⟨i.toNat, by omega⟩;rw [show ((k : Int)).toNat = k from by omega]
  have hk : k < C.n := by omega
  obtain ⟨gf, cap, hv, _, f0, f1, f2⟩ := h.facAt hk;have e0 : ∀ D : Of (PastV w), _ := fun D => keepc (show Below w.heap.size w D.world from D.holds) f0;have e1 : ∀ D : Of (PastV w), _ := fun D => keepc (show Below w.heap.size w D.world from D.holds) f1;have e2 : ∀ D : Of (PastV w), _ := fun D => keepc (show Below w.heap.size w D.world from D.holds) f2;have d1 : ∀ D : Of (PastV w), _ := fun D => (G.out.keep (show Below w.heap.size w D.world from D.holds)).cell (i := 1) (v := .slice (some ⟨gf, 0, none⟩) C.n cap) (by rw [← hv]; rfl);have d4 : ∀ D : Of (PastV w), _ := fun D => (G.out.keep (show Below w.heap.size w D.world from D.holds)).cell (i := 4) (v := .int .i64 ax) rfl;have d5 : ∀ D : Of (PastV w), _ := fun D => (G.out.keep (show Below w.heap.size w D.world from D.holds)).cell (i := 5) (v := .int .i64 sd) rfl
  have i0 : (0 : Int) ≤ (k : Int) := by omega
  have i1 : (k : Int) < (C.n : Int) := by omega
  have i2 : ((k : Int)).toNat = k := by omega
  clear h hmc hn hp pl hv f0 f1 f2 G hk;generalize C.A k = a at *;generalize C.S k = s at *;generalize C.K k = kk at *;generalize C.n = n at *;generalize C.g = g at *;generalize C.gl = gl at *
  go_enter Tryz.func36, Tryz.ntmps36
  go_upto_region 1 with fail
  refine wp_region_class (S := PastV w) (by kernel_rfl) (by kernel_rfl) (Below.refl _ _).drew ?_
  repeat (go_big_quiet_step (first | (go_at_call 22; first | (with_reducible exact class_call ST.out _ (HA.out _)))))
  refine wpQuiet_nil ?_
  rintro _ ⟨D, rfl⟩
  have hD : Below w.heap.size w D.world := D.holds
  go_wp2
  go_ret
  exact ⟨rfl, hD⟩
set_option maxRecDepth 100000 in
set_option maxHeartbeats 8000000 in
theorem hangs_any (C : GrC) (tk : Nat → Bool) (ax sd : Int) (a : Option Addr) (l : List Int) (cv : Nat) (rc : Nat → Bool) (op : Nat → Nat) (i : Nat) (w : World) (h : C.St w tk ax sd (.slice a l.length cv) rc op) (hi : i < C.n) (hE : ∀ x ∈ C.E i, 0 ≤ x ∧ x < (C.N : Int)) (hl : (C.E i).length ≤ 1000000) (hll : l.length ≤ 1000000) :
  Calls Tryz.prog 57 #[.pointer (some ⟨C.g, 0, none⟩), .int .i64 i] w fun e w' => e = .returned (.bool ((C.E i).any (fun x => rc x.toNat) || l.isEmpty)) ∧ Below w.heap.size w w' := by
 have HB := Lib.hid (Below.refl w.heap.size w);obtain ⟨ae, m, ce, _, hm, he, hr⟩ := h.edgAt hi;have H := Lib.hid h;have RE := Lib.hid hr;have G := Lib.hid h.gro;have c2 := h.gro.cell (i := 2) (v := .slice (some ⟨C.eb, 0, none⟩) C.n C.n) rfl
 have i0 : (0 : Int) ≤ (i : Int) := by omega
 have i1 : (i : Int) < (C.n : Int) := by omega
 have i2 : ((i : Int)).toNat = i := by omega
 have hnm := C.n;clear h hr;have HE := Lib.hid hE;clear hE
 go_enter Tryz.func57, Tryz.ntmps57
 go_wp2_with fail
 clear c2 he
 go_loopw [15] (fun x wr => ∃ k : Nat, x = .int .i64 k ∧ k ≤ m ∧ (∀ j, j < k → rc ((C.E i).getD j 0).toNat = false) ∧ wr = w) (fun x _ => m - (intOf x).toNat)
 case atStart => exact ⟨0, rfl, Nat.zero_le _, fun j h => absurd h (by omega), rfl⟩
 case round =>
  obtain ⟨k, rfl, hk, hR, rfl⟩ := hrel;have HR := Lib.hid hR;clear hR
  by_cases hlt : k < m
  ·obtain ⟨b, o, rfl, hb, hc⟩ := RE.out.at hlt
   have x0 := hc k hlt;have hx := HE.out ((C.E i).getD k 0) (mem_at (by omega));have YES : Hid (rc ((C.E i).getD k 0).toNat = true → (C.E i).any (fun x => rc x.toNat) = true) := Lib.hid (fun q => List.any_eq_true.2 ⟨_, mem_at (by omega), q⟩)
   have NO : Hid (rc ((C.E i).getD k 0).toNat = false → ∀ j, j < k + 1 → rc ((C.E i).getD j 0).toNat = false) := Lib.hid (fun q j hj => by
    by_cases e : j = k
    ·rw [e]; exact q
    ·exact HR.out j (by omega))
   obtain ⟨z, hz⟩ := Int.eq_ofNat_of_zero_le hx.1;rw [hz] at x0 hx YES NO;rw [show ((z : Int)).toNat = z from by omega] at YES NO;have r0 := (H.out.reaAt (i := z) (by omega)).1;have c5 := G.out.cell (i := 7) (v := .slice (some ⟨C.rb, 0, none⟩) C.N C.N) rfl
   have k0 : (0 : Int) ≤ (k : Int) := by omega
   have k1 : (k : Int) < (m : Int) := by omega
   have k2 : ((k : Int)).toNat = k := by omega
   have z0 : (0 : Int) ≤ (z : Int) := by omega
   have z1 := hx.2
   have z2 : ((z : Int)).toNat = z := by omega
   clear hc hb hx hz
   cases hrc : rc z with
   | true =>
    rw [hrc] at r0;have E := Lib.hid (YES.out hrc);clear YES NO hrc
    go_wp2
    go_ret
    exact ⟨by rw [E.out]; rfl, HB.out⟩
   | false =>
    rw [hrc] at r0;have E := Lib.hid (NO.out hrc);clear YES NO hrc
    go_wp2
    go_roundw
    case rel => exact ⟨k + 1, by go_num, hlt, E.out, by first | rfl | trivial⟩
    case measure => simp [intOf]; omega
  ·obtain rfl : k = m := by omega
   have E : Hid ((C.E i).any (fun x => rc x.toNat) = false) := Lib.hid (by
    rw [List.any_eq_false]
    intro x hx
    obtain ⟨j, hj, rfl⟩ := List.mem_iff_getElem.1 hx;have z := HR.out j (by omega);rw [List.getD_eq_getElem?_getD, List.getElem?_eq_getElem hj, Option.getD_some] at z
    rw [z]; exact Bool.false_ne_true)
   have c6 := G.out.cell (i := 6) (v := .slice a l.length cv) rfl
   have em : (((l.length : Nat) : Int) == 0) = l.isEmpty := by cases l <;> rfl
   go_wp2
   go_ret
   exact ⟨by rw [E.out, Bool.false_or, ← em]; rfl, HB.out⟩
end Go.Proofs.YtcnbbanpnoigdaaGreat
namespace Go.Proofs.YtcnbbanpnoigdaaGreat
open Go.RowKit

set_option maxRecDepth 100000 in
theorem clear_bools (b n c : Nat) (f : Nat → Bool) (W : World) (h : Lok W b 4 (rwL n fun i => .bool (f i))) : ∀ ty, (Builtin.clear_ #[72] ty #[.slice (some ⟨b, 0, none⟩) n c]).run Tryz.prog W = .ok (.tuple #[]) (W.setCells b 0 (List.replicate n (.bool false))) := fun ty => by
 rcases Nat.eq_zero_or_pos n with e | e
 ·subst e
  simp [Builtin.clear_, go_sem, World.setCells]
 ·exact Lib.run_clear_slice W 72 4 ty (.bool false) rfl (fun _ => by kernel_rfl) rfl rfl b 0 n c e (fun j hj => by rw [Nat.zero_add, h.cell (rwL_at _ hj)]; rfl) (fun j _ => by rw [Nat.zero_add]; exact h.frozen j)
set_option maxRecDepth 100000 in
theorem clear_ints (b n c : Nat) (f : Nat → Int) (W : World) (h : Lok W b 3 (rwL n fun i => .int .i64 (f i))) : ∀ ty, (Builtin.clear_ #[27] ty #[.slice (some ⟨b, 0, none⟩) n c]).run Tryz.prog W = .ok (.tuple #[]) (W.setCells b 0 (List.replicate n (.int .i64 0))) := fun ty => by
 rcases Nat.eq_zero_or_pos n with e | e
 ·subst e
  simp [Builtin.clear_, go_sem, World.setCells]
 ·exact Lib.run_clear_slice W 27 3 ty (.int .i64 0) rfl (fun _ => by kernel_rfl) rfl rfl b 0 n c e (fun j hj => by rw [Nat.zero_add, h.cell (rwL_at _ hj)]; rfl) (fun j _ => by rw [Nat.zero_add]; exact h.frozen j)
namespace GrC
variable {C : GrC} {W W' : World} {tk : Nat → Bool} {ax sd : Int} {v : Value} {rc : Nat → Bool} {op : Nat → Nat}
theorem St.setC (h : C.St W tk ax sd v rc op) (x y : Int) (u : Value) : C.St (((W.setCell ⟨C.g, 4, none⟩ (.int .i64 x)).setCell ⟨C.g, 5, none⟩ (.int .i64 y)).setCell ⟨C.g, 6, none⟩ u) tk x y u rc op :=
 ⟨h.sep, ((h.st.set h.sep (.inl rfl) _).set h.sep (.inl rfl) _).set h.sep (.inl rfl) u, ((h.gro.set (i := 4) (v := .int .i64 x)).set (i := 5) (v := .int .i64 y)).set (i := 6) (v := u),
  ((h.tak.far (fun e => h.sep.gt e.symm)).far (fun e => h.sep.gt e.symm)).far (fun e => h.sep.gt e.symm), ((h.rea.far (fun e => h.sep.gr e.symm)).far (fun e => h.sep.gr e.symm)).far (fun e => h.sep.gr e.symm), ((h.ope.far (fun e => h.sep.go e.symm)).far (fun e => h.sep.go e.symm)).far (fun e => h.sep.go e.symm)⟩
theorem Exc.cells {B b : Nat} {V : World} (h : C.Exc B V W) (hb : C.four b) (vs : List Value) (o : Nat) : C.Exc B V (W.setCells b o vs) := by
 obtain ⟨a, t, u⟩ := rest_setCells (b := b) vs o W
 exact h.trans ⟨a, t, u, by rw [size_setCells]; exact Nat.le_refl _, fun k _ q => heap_setCells vs o W k (fun e => q (by rw [e]; exact hb))⟩
theorem Stat.cells (h : C.Stat W) (hs : C.Sep) {b : Nat} (hb : C.four b) (vs : List Value) (o : Nat) : C.Stat (W.setCells b o vs) := h.kept fun k q => heap_setCells vs o W k (fun e => (hs.stat k q).2.2 (by rw [e]; exact hb))
theorem St.clearR (h : C.St W tk ax sd v rc op) : C.St (W.setCells C.rb 0 (List.replicate C.N (.bool false))) tk ax sd v (fun _ => false) op := by
 refine ⟨h.sep, h.st.cells h.sep (.inr (.inr (.inl rfl))) _ _, (heap_setCells _ _ _ _ h.sep.gr).trans h.gro, (heap_setCells _ _ _ _ h.sep.tr).trans h.tak, ?_, (heap_setCells _ _ _ _ (fun e => h.sep.ro e.symm)).trans h.ope⟩
 have z := lok_fill (z := .bool false) C.N 0 _ _ (by omega) h.rea;rw [show (rwL C.N fun j => if 0 ≤ j then Value.bool false else Value.bool (rc j)) = rwL C.N fun _ => Value.bool false from rwL_congr fun j _ => if_pos (Nat.zero_le _)] at z
 exact z
theorem St.clearO (h : C.St W tk ax sd v rc op) : C.St (W.setCells C.ob 0 (List.replicate C.n (.int .i64 0))) tk ax sd v rc (fun _ => 0) := by
 refine ⟨h.sep, h.st.cells h.sep (.inr (.inr (.inr rfl))) _ _, (heap_setCells _ _ _ _ h.sep.go).trans h.gro, (heap_setCells _ _ _ _ h.sep.to).trans h.tak, (heap_setCells _ _ _ _ h.sep.ro).trans h.rea, ?_⟩
 have z := lok_fill (z := .int .i64 0) C.n 0 _ _ (by omega) h.ope;rw [show (rwL C.n fun j => if 0 ≤ j then Value.int .i64 0 else Value.int .i64 (op j : Int)) = rwL C.n fun _ => Value.int .i64 ((0 : Nat) : Int) from rwL_congr fun j _ => if_pos (Nat.zero_le _)] at z
 exact z
end GrC
set_option maxRecDepth 100000 in
set_option maxHeartbeats 4000000 in
theorem begin_any (C : GrC) (tk : Nat → Bool) (ax0 sd0 : Int) (v : Value) (rc : Nat → Bool) (op : Nat → Nat) (ax sd : Int) (w : World) (h : C.St w tk ax0 sd0 v rc op) :
  Calls Tryz.prog 35 #[.pointer (some ⟨C.g, 0, none⟩), .int .i64 ax, .int .i64 sd] w fun e w' => e = .returned (.tuple #[]) ∧ C.St w' tk ax sd (.slice none 0 0) (fun _ => false) (fun _ => 0) ∧ C.Exc w.heap.size w w' := by
 have S1 := Lib.hid (h.setC ax sd (.slice none 0 0));have X1 := Lib.hid ((((GrC.Exc.refl C w.heap.size w).set (i := 4) (.inl rfl) (.int .i64 ax)).set (i := 5) (.inl rfl) (.int .i64 sd)).set (i := 6) (.inl rfl) (.slice none 0 0));have c4 := h.gro.cell (i := 4) (v := .int .i64 ax0) rfl;have c5 := h.gro.cell (i := 5) (v := .int .i64 sd0) rfl;have c6 := h.gro.cell (i := 6) (v := v) rfl;have f4 := h.gro.frozen 4;have f5 := h.gro.frozen 5;have f6 := h.gro.frozen 6;clear h
 go_enter Tryz.func35, Tryz.ntmps35
 go_upto_region 1 with fail
 clear c4 c5 c6 f4 f5 f6;generalize ((w.setCell ⟨C.g, 4, none⟩ (.int .i64 ax)).setCell ⟨C.g, 5, none⟩ (.int .i64 sd)).setCell ⟨C.g, 6, none⟩ (.slice none 0 0) = V1 at *;have c7 := S1.out.gro.cell (i := 7) (v := .slice (some ⟨C.rb, 0, none⟩) C.N C.N) rfl;have hcl := clear_bools C.rb C.N C.N rc V1 S1.out.rea;have S2 := Lib.hid S1.out.clearR;have X2 := Lib.hid (X1.out.cells (.inr (.inr (.inl rfl))) (List.replicate C.N (.bool false)) 0)
 go_upto_region 2 with (simp only [hcl])
 clear c7 hcl S1 X1;generalize V1.setCells C.rb 0 (List.replicate C.N (.bool false)) = V2 at *;have c8 := S2.out.gro.cell (i := 8) (v := .slice (some ⟨C.ob, 0, none⟩) C.n C.n) rfl;have hcl := clear_ints C.ob C.n C.n (fun i => (op i : Int)) V2 S2.out.ope;have S3 := Lib.hid S2.out.clearO;have X3 := Lib.hid (X2.out.cells (.inr (.inr (.inr rfl))) (List.replicate C.n (.int .i64 0)) 0)
 go_wp2_with (simp only [hcl])
 exact bodyPost_end (v := .tuple #[]) (by simp [results, Tryz.results35, go_sem]) rfl ⟨rfl, S3.out, X3.out⟩
set_option maxRecDepth 100000 in
set_option maxHeartbeats 8000000 in
theorem put_any (C : GrC) (tk : Nat → Bool) (ax sd : Int) (v : Value) (l : List Int) (rc : Nat → Bool) (op : Nat → Nat) (B i : Nat) (w : World) (h : C.St w tk ax sd v rc op) (hv : OwnI w B v l) (hB : C.hi ≤ B) (hBw : B ≤ w.heap.size) (hi : i < C.n) (hE : ∀ x ∈ C.E i, 0 ≤ x ∧ x < (C.N : Int)) (hl : (C.E i).length ≤ 1000000) (hll : l.length ≤ 1000000) :
  Calls Tryz.prog 37 #[.pointer (some ⟨C.g, 0, none⟩), .int .i64 i] w fun e w' => e = .returned (.tuple #[]) ∧ (∃ v', C.St w' (fun j => if j = i then true else tk j) ax sd v' (fun x => rc x || isIn (C.E i) (x : Int)) op ∧ OwnI w' B v' (l ++ [(i : Int)])) ∧ C.Exc B w w' := by
 obtain ⟨iI, hI, hz0, hz1, hz2⟩ := info_parts infoI;have H := Lib.hid h;have c6 := h.gro.cell (i := 6) (v := v) rfl
 have i0 : (0 : Int) ≤ (i : Int) := by omega
 have i1 : (i : Int) < (C.n : Int) := by omega
 have i2 : ((i : Int)).toNat = i := by omega
 have HE := Lib.hid hE;clear h hE;have hO1 := hv;have o1 := ownI_one hv
 go_enter Tryz.func37, Tryz.ntmps37
 have hbk : Below w.heap.size w (w.alloc (.cells #[.int .i64 (i : Int)] 3)) := (Below.refl _ _).alloc (Nat.le_refl _) _;have H1 := Lib.hid (H.out.keep hbk);have O1 := Lib.hid (hv.keep hbk);have KC := Lib.hid (Lok.new w 3 #[.int .i64 (i : Int)]);have X1 := Lib.hid ((GrC.Exc.of hbk : C.Exc w.heap.size w _).mono hBw)
 have hcell : Hid (∀ (j : Nat) (u : Value), [Value.int .i64 (i : Int)][j]? = some u → (w.alloc (.cells #[.int .i64 (i : Int)] 3)).cell? (Addr.add ⟨w.heap.size, 0, none⟩ j) = some u) := Lib.hid (fun j u hu => by
  rw [Go.WideShapes.add_plain, Nat.zero_add]
  exact KC.out.cell (by rw [List.getElem?_toArray]; exact hu))
 have hone : Hid (∀ u ∈ [Value.int .i64 (i : Int)], u.oneCell' = true) := Lib.hid (fun u hu => by rw [List.mem_singleton] at hu; subst hu; rfl);have hbase : Hid (B ≤ (w.alloc (.cells #[.int .i64 (i : Int)] 3)).heap.size) := Lib.hid (Nat.le_trans hBw hbk.size);have p1 : Hid (l.length + 1 ≤ maxLen) := Lib.hid (by unfold maxLen; omega);have p2 : Hid ((l.length + 1) * 8 ≤ 140737488355328) := Lib.hid (by omega);have hBlt : Hid (∀ g, v.ownBlock = some g → B ≤ g) := Lib.hid (fun g hg => (World.ownsRow.lt hv g hg).1);clear hbk KC hv hO1
 go_wp2_with (at_builtin; refine wpList_append_own_at _ rfl _ _ 27 rfl B 3 iI (.int .i64 0) 1 8 Tryz.underlying27 hI hz0 hz1 hz2 rfl (by decide) v l.length (l.map (Value.int .i64)) rfl O1.out ⟨w.heap.size, 0, none⟩ 1 1 [.int .i64 i] rfl rfl hcell.out hone.out p1.out p2.out hbase.out ?_)
 intro v6 w6 hown hg6 _ hloc
 have O6 : Hid (OwnI w6 B v6 (l ++ [(i : Int)])) := Lib.hid (by
  unfold OwnI;rw [List.length_append, List.map_append]
  exact hown)
 have hb6 : Below B (w.alloc (.cells #[.int .i64 (i : Int)] 3)) w6 := (Below.refl B _).grown hg6 hbase.out (fun g hg => hBlt.out g hg);have H6 := Lib.hid (H1.out.keepB hb6 hB);have X6 := Lib.hid (X1.out.trans (GrC.Exc.of hb6))
 obtain ⟨a6, n6, e6⟩ : ∃ a c, v6 = .slice a (l ++ [(i : Int)]).length c := by
  obtain ⟨a, c, e, _⟩ := rowI_of_own O6.out
  exact ⟨a, c, e⟩
 have g6 := H6.out.gro.cell (i := 6) (v := v) rfl;have q6 := H6.out.gro.frozen 6;clear hown hg6 hloc hcell hone hbase p1 p2 H1 O1 X1 hb6 c6 o1;subst e6;generalize (l ++ [(i : Int)]).length = len at *;have H7 := Lib.hid (H6.out.setV (.slice a6 len n6));have X7 := Lib.hid (X6.out.set (i := 6) (.inl rfl) (.slice a6 len n6));have O7 := Lib.hid (ownI_set (i := 6) (x := .slice a6 len n6) O6.out (Nat.lt_of_lt_of_le (H6.out.sep.four C.g (.inl rfl)).2 hB))
 go_upto_region 1 with fail
 clear g6 q6 H6 X6 O6 H;generalize w6.setCell ⟨C.g, 6, none⟩ (.slice a6 len n6) = V7 at *;obtain ⟨t0, t1⟩ := H7.out.takAt hi;have c3 := H7.out.gro.cell (i := 3) (v := .slice (some ⟨C.tb, 0, none⟩) C.n C.n) rfl;have H8 := Lib.hid (H7.out.setT hi true);have X8 := Lib.hid (X7.out.set (i := i) (.inr (.inl rfl)) (.bool true));have O8 := Lib.hid (ownI_set (i := i) (x := .bool true) O7.out (Nat.lt_of_lt_of_le (H7.out.sep.four C.tb (.inr (.inl rfl))).2 hB))
 go_upto_region 2 with fail
 clear t0 t1 c3 H7 X7 O7;generalize V7.setCell ⟨C.tb, i, none⟩ (.bool true) = V8 at *;obtain ⟨ae, m, ce, e1, hm, he, hr⟩ := H8.out.edgAt hi;have E1 := Lib.hid e1;clear e1;have c2 := H8.out.gro.cell (i := 2) (v := .slice (some ⟨C.eb, 0, none⟩) C.n C.n) rfl;have HE2 := Lib.hid (H8.out.st.own i hi)
 go_wp2_with fail
 clear c2 he;generalize hT : (fun j => if j = i then true else tk j) = tk' at *;replace hT := Lib.hid hT
 go_loopw [32] (fun x wr => ∃ k : Nat, x = .int .i64 k ∧ k ≤ m ∧ C.St wr tk' ax sd (.slice a6 len n6) (fun x => rc x || isIn ((C.E i).take k) (x : Int)) op ∧ OwnI wr B (.slice a6 len n6) (l ++ [(i : Int)]) ∧ C.Exc B w wr) (fun x _ => m - (intOf x).toNat)
 case atStart => exact ⟨0, rfl, Nat.zero_le _, H8.out.same (fun _ _ => rfl) (fun x _ => by rw [List.take_zero, isIn_not.2 List.not_mem_nil, Bool.or_false]) (fun _ _ => rfl), O8.out, X8.out⟩
 case round =>
  clear H8 X8 O8 hr HE2;obtain ⟨k, rfl, hk, hS, hO, hX⟩ := hrel;have H8 := Lib.hid hS;have O8 := Lib.hid hO;have X8 := Lib.hid hX;clear hS hO hX
  by_cases hlt : k < m
  ·obtain ⟨ae', m', ce', ee, hm', he', hr⟩ := H8.out.edgAt hi
   rw [E1.out] at ee
   injection ee with ee1 ee2 ee3
   subst ee1 ee2 ee3;clear he' hm';obtain ⟨b, o, rfl, hb, hc⟩ := hr.at hlt;have x0 := hc k hlt;have hx := HE.out ((C.E i).getD k 0) (mem_at (by omega))
   have TK : Hid ((C.E i).take (k + 1) = (C.E i).take k ++ [(C.E i).getD k 0]) := Lib.hid (by
    rw [List.take_add_one, List.getD_eq_getElem?_getD, List.getElem?_eq_getElem (show k < (C.E i).length by omega)]; rfl)
   obtain ⟨z, hz⟩ := Int.eq_ofNat_of_zero_le hx.1;rw [hz] at x0 hx TK
   have hzN : z < C.N := by omega
   obtain ⟨r0, r1⟩ := H8.out.reaAt hzN;have c5 := H8.out.gro.cell (i := 7) (v := .slice (some ⟨C.rb, 0, none⟩) C.N C.N) rfl
   have k0 : (0 : Int) ≤ (k : Int) := by omega
   have k1 : (k : Int) < (m : Int) := by omega
   have k2 : ((k : Int)).toNat = k := by omega
   have z0 : (0 : Int) ≤ (z : Int) := by omega
   have z1 : (z : Int) < (C.N : Int) := by omega
   have z2 : ((z : Int)).toNat = z := by omega
   have H9 := Lib.hid ((H8.out.setR hzN true).same (rc' := fun x => rc x || isIn ((C.E i).take (k + 1)) (x : Int)) (fun _ _ => rfl) (fun x _ => by
    rw [TK.out]
    by_cases e : x = z
    ·rw [if_pos e, isIn_iff.2 (List.mem_append.2 (.inr (by rw [e]; exact List.mem_singleton.2 rfl))), Bool.or_true]
    ·rw [if_neg e]
     congr 1
     rw [Bool.eq_iff_iff, isIn_iff, isIn_iff, List.mem_append, List.mem_singleton]
     exact ⟨.inl, fun q => q.elim id (fun q => absurd q (by omega))⟩) (fun _ _ => rfl))
   have X9 := Lib.hid (X8.out.set (i := z) (.inr (.inr (.inl rfl))) (.bool true));have O9 := Lib.hid (ownI_set (i := z) (x := .bool true) O8.out (Nat.lt_of_lt_of_le (H8.out.sep.four C.rb (.inr (.inr (.inl rfl)))).2 hB));clear hc hb hx hz hr
   go_wp2
   go_roundw
   case rel => exact ⟨k + 1, by go_num, hlt, H9.out, O9.out, X9.out⟩
   case measure => simp [intOf]; omega
  ·obtain rfl : k = m := by omega
   have H9 := Lib.hid (H8.out.same (rc' := fun x => rc x || isIn (C.E i) (x : Int)) (fun _ _ => rfl) (fun x _ => by rw [← hm, List.take_of_length_le (Nat.le_refl _)]) (fun _ _ => rfl))
   go_wp2_with fail
   exact bodyPost_end (v := .tuple #[]) (by simp [results, Tryz.results37, go_sem]) rfl ⟨rfl, ⟨_, hT.out ▸ H9.out, O8.out⟩, X8.out⟩
end Go.Proofs.YtcnbbanpnoigdaaGreat
namespace Go.Proofs.YtcnbbanpnoigdaaGreat
open Go.RowKit

theorem drop_getD (l : List Int) (lo i : Nat) : (l.drop lo).getD i 0 = l.getD (lo + i) 0 := by rw [List.getD_eq_getElem?_getD, List.getD_eq_getElem?_getD, List.getElem?_drop]
set_option maxRecDepth 100000 in
theorem slice_from {W : World} {base : Nat} {v : Value} {l : List Int} (h : OwnI W base v l) {lo : Nat} (hlo : lo ≤ l.length) :
  ∃ a c a2 c2, v = .slice a l.length c ∧ (∀ W', (Instr.slice 27 (.slice a l.length c) (some (.int .i64 lo)) none none).run Tryz.prog W' = .ok (.slice a2 (l.length - lo) c2) W') ∧ (∀ W', (Instr.sliceAt 27 (.slice a l.length c) (some (.int .i64 lo)) none none).run Tryz.prog W' = .ok (.slice a2 (l.length - lo) c2) W') ∧ ∀ W', OwnI W' base (.slice a l.length c) l → RowI W' a2 (l.length - lo) (l.drop lo) := by
 have R := rowI_of_own h;obtain ⟨a, c, rfl, hn, hc, _, _⟩ := R
 have l0 : (0 : Int) ≤ (lo : Int) := by omega
 have l1 : (lo : Int) ≤ (l.length : Int) := by omega
 have l2 : ((lo : Int)).toNat = lo := by omega
 have key : ∀ W', (Instr.slice 27 (.slice a l.length c) (some (.int .i64 lo)) none none).run Tryz.prog W' = .ok (.slice (if c = lo then a else a.map (·.add (lo * 1))) (l.length - lo) (c - lo)) W' := fun W' => by
  rw [run_slice_l (t := 27) (ht := rfl) (h0 := l0) (h1 := l1), l2]
  have hs : ∀ W, ((sizeOf (Tryz.prog.elem 27)).run Tryz.prog W) = .ok 1 W := fun W => by kernel_rfl
  rw [hs]
  rfl
 refine ⟨a, c, _, _, rfl, key, fun W' => by rw [run_sliceAt_slice (h := rfl)]; exact key W', fun W' h' => ⟨by rw [List.length_drop], ?_⟩⟩
 obtain ⟨a', c', e', _, _, _, hr⟩ := rowI_of_own h'
 injection e' with e1 _ e3
 subst e1 e3
 by_cases e : l.length - lo = 0
 ·exact .inl e
 ·obtain ⟨b, off, ha, hb, hx⟩ := hr.at (i := 0) (by omega)
  subst ha;rw [if_neg (by omega)]
  refine .inr ⟨b, off + lo, by simp [Go.WideShapes.add_plain], hb, fun i hi j hj => ?_⟩
  obtain rfl : j = 0 := by omega
  have z := hx (lo + i) (by omega)
  show _ = some (Value.int .i64 ((l.drop lo).getD i 0))
  rw [Nat.mul_one, Nat.add_zero, drop_getD, show off + lo + i = off + (lo + i) by omega]
  exact z
def OpI (FV FC : Nat → Nat → Int) (n : Nat) (ax : Int) (l : List Int) (op : Nat → Nat) : Prop := ∀ i, i < n → op i ≤ l.length ∧ ∀ j, j < op i → ovB FV FC ax.toNat i (l.getD j 0).toNat = false
set_option maxRecDepth 100000 in
set_option maxHeartbeats 8000000 in
theorem seen_any (pa1 pa2 pa3 pa4 : Option Addr) (n1 n2 n3 n4 c1 c2 c3 c4 : Nat) (FV FT FN FC : Nat → Nat → Int) (w0 : World) (hm : MsW w0 pa1 pa2 pa3 pa4 n1 n2 n3 n4 FV FT FN FC) (ht : tmB n1 n2 n3 n4 FV FT FN FC = true) (C : GrC) (hn : C.n = n4) (hmc : C.mc = mshC pa1 pa2 pa3 pa4 n1 n2 n3 n4 c1 c2 c3 c4) (hlo : C.lo = w0.heap.size)
  (tk : Nat → Bool) (ax sd : Int) (v : Value) (l : List Int) (rc : Nat → Bool) (op : Nat → Nat) (B i : Nat) (w : World) (h0 : Below w0.heap.size w0 w) (h : C.St w tk ax sd v rc op) (hv : OwnI w B v l) (hB : C.hi ≤ B) (hBw : B ≤ w.heap.size) (hi : i < n4) (hax : axB ax) (hl : ∀ x ∈ l, 0 ≤ x ∧ x < (n4 : Int)) (hll : l.length ≤ 1000000) (hop : OpI FV FC n4 ax l op) :
  Calls Tryz.prog 58 #[.pointer (some ⟨C.g, 0, none⟩), .int .i64 i] w fun e w' => e = .returned (.bool (l.all fun k => !ovB FV FC ax.toNat i k.toNat)) ∧ (∃ op', C.St w' tk ax sd v rc op' ∧ OpI FV FC n4 ax l op') ∧ OwnI w' B v l ∧ C.Exc B w w' := by
 have hiC : i < C.n := by omega
 have hlh : C.lo ≤ C.hi := by have := h.sep.four C.g (.inl rfl); omega
 obtain ⟨hp, hpo⟩ := hop i hi;obtain ⟨a, cv, a2, cv2, rfl, hsl, hsl2, hr⟩ := slice_from hv hp;have H0 := Lib.hid h;have M := Lib.hid hm;have HT := Lib.hid ht;have HMC := Lib.hid hmc;have HL := Lib.hid hl;have OP := Lib.hid hop;have hpo' := Lib.hid hpo;have hpt : Hid (op i = op i) := Lib.hid rfl;obtain ⟨lo, hlo2⟩ : ∃ lo, lo = op i := ⟨_, rfl⟩;rw [← hlo2] at hp hpo' hsl hsl2 hr;have LO := Lib.hid hlo2;have O0 := Lib.hid hv;have c6 := h.gro.cell (i := 6) (v := .slice a l.length cv) rfl;have c8 := h.gro.cell (i := 8) (v := .slice (some ⟨C.ob, 0, none⟩) C.n C.n) rfl;have t8 := (h.opeAt hiC).1;rw [← hlo2] at t8
 have i0 : (0 : Int) ≤ (i : Int) := by omega
 have i1 : (i : Int) < (C.n : Int) := by omega
 have i2 : ((i : Int)).toNat = i := by omega
 have RW := Lib.hid hr;have HAX := Lib.hid hax;have HLO := Lib.hid hlo;have HN := Lib.hid hn;have HI := Lib.hid hi;have H00 := Lib.hid h0;have hlk : Hid (l.length - lo = (l.drop lo).length) := Lib.hid (by rw [List.length_drop]);obtain ⟨m, hmm⟩ : ∃ m, m = l.length - lo := ⟨_, rfl⟩;rw [← hmm] at hsl hsl2 RW hlk;have HMM := Lib.hid hmm;clear h hm ht hmc hl hop hpo hlo2 hv hr hax hlo hn hi h0 hmm hpt
 go_enter Tryz.func58, Tryz.ntmps58
 go_upto_region 1 with fail
 go_quiet (fail)
 go_wp2_with fail
 clear hsl hsl2 c6 c8 t8 i1
 go_loopw [21] (fun x wr => ∃ k : Nat, x = .int .i64 k ∧ k ≤ m ∧ (∀ j, j < k → ovB FV FC ax.toNat i (l.getD (lo + j) 0).toNat = false) ∧ C.St wr tk ax sd (.slice a l.length cv) rc (fun j => if j = i then lo + k else op j) ∧ OwnI wr B (.slice a l.length cv) l ∧ C.Exc B w wr) (fun x _ => m - (intOf x).toNat)
 case atStart =>
  refine ⟨0, rfl, Nat.zero_le _, fun j h => absurd h (by omega), (H0.out.keep (below_drewN (Below.refl _ w) _)).same (fun _ _ => rfl) (fun _ _ => rfl) (fun j _ => ?_), O0.out.keep (below_drewN (Below.refl _ w) _), GrC.Exc.of (below_drewN (Below.refl _ w) _)⟩
  by_cases e : j = i
  ·rw [if_pos e, e]; exact LO.out.symm
  ·rw [if_neg e]
 case round =>
  clear H0 O0;obtain ⟨k, rfl, hk, hR, hS, hO, hX⟩ := hrel;have HR := Lib.hid hR;have HS := Lib.hid hS;have OO := Lib.hid hO;have HX := Lib.hid hX;clear hR hS hO hX
  have hiC : i < C.n := by rw [HN.out]; exact HI.out
  by_cases hlt : k < m
  ·obtain ⟨b, o, rfl, hb, hc⟩ := (RW.out wr OO.out).at hlt
   have x0 := hc k hlt;rw [drop_getD] at x0
   have hkl : lo + k < l.length := by have := HMM.out; omega
   have hx := HL.out (l.getD (lo + k) 0) (mem_at hkl)
   have YES : Hid (ovB FV FC ax.toNat i (l.getD (lo + k) 0).toNat = true → (l.all fun k => !ovB FV FC ax.toNat i k.toNat) = false) := Lib.hid (fun q => by
    rw [List.all_eq_false]
    exact ⟨_, mem_at hkl, by rw [q]; exact Bool.false_ne_true⟩)
   have NO : Hid (ovB FV FC ax.toNat i (l.getD (lo + k) 0).toNat = false → ∀ j, j < k + 1 → ovB FV FC ax.toNat i (l.getD (lo + j) 0).toNat = false) := Lib.hid (fun q j hj => by
    by_cases e : j = k
    ·rw [e]; exact q
    ·exact HR.out j (by omega))
   obtain ⟨z, hz⟩ := Int.eq_ofNat_of_zero_le hx.1;rw [hz] at x0 hx YES NO;rw [show ((z : Int)).toNat = z from by omega] at YES NO;have hbl := HX.out.below HS.out.sep (Nat.le_trans hlh hB);rw [HLO.out] at hbl;have BW := Lib.hid (H00.out.trans hbl);clear hbl;have LD := Lib.hid HS.out.st.land;rw [HMC.out] at LD;have HH := Lib.hid (fun D : Of (PastV wr) => hide_any pa1 pa2 pa3 pa4 n1 n2 n3 n4 c1 c2 c3 c4 FV FT FN FC C.gl i z ax D.world (M.out.keep (BW.out.trans ((show Below wr.heap.size wr D.world from D.holds).mono BW.out.size))) HT.out HI.out (by omega) HAX.out (LD.out.keep (show Below wr.heap.size wr D.world from D.holds)));have G := Lib.hid HS.out.gro;have d0 : ∀ D : Of (PastV wr), _ := fun D => (G.out.keep (show Below wr.heap.size wr D.world from D.holds)).cell (i := 0) (v := .pointer (some ⟨C.gl, 0, none⟩)) rfl;have d4 : ∀ D : Of (PastV wr), _ := fun D => (G.out.keep (show Below wr.heap.size wr D.world from D.holds)).cell (i := 4) (v := .int .i64 ax) rfl;have ST := Lib.hid (pastV_stays wr);have ne : Nonempty (Of (PastV wr)) := ⟨⟨wr, Below.refl _ _⟩⟩
   have k0 : (0 : Int) ≤ (k : Int) := by omega
   have k1 : (k : Int) < (m : Int) := by omega
   have k2 : ((k : Int)).toNat = k := by omega
   clear hc hb hx hz G LD
   go_upto_region 4 with fail
   clear x0
   cases hov : ovB FV FC ax.toNat i z with
   | true =>
    have E := Lib.hid (YES.out hov);rw [hov] at HH;clear YES NO hov
    refine wp_region_class (S := PastV wr) (by kernel_rfl) (by kernel_rfl) (Below.refl _ _).drew ?_
    repeat (go_big_quiet_step (first | (go_at_call 83; first | (with_reducible exact class_call ST.out _ (HH.out _)))))
    refine wpQuiet_nil ?_
    rintro _ ⟨D, rfl⟩
    have hD : Below wr.heap.size wr D.world := D.holds
    have OPN : Hid (OpI FV FC n4 ax l (fun j => if j = i then lo + k else op j)) := Lib.hid (fun j hj => by
     by_cases e : j = i
     ·simp only [if_pos e]
      refine ⟨by omega, fun q hq => ?_⟩
      rw [e]
      rcases Nat.lt_or_ge q lo with u | u
      ·exact hpo'.out q u
      ·have := HR.out (q - lo) (by omega)
       rwa [show lo + (q - lo) = q by omega] at this
     ·simp only [if_neg e]
      exact OP.out j hj)
    go_wp2
    go_ret
    exact ⟨by rw [E.out]; rfl, ⟨_, HS.out.keep hD, OPN.out⟩, OO.out.keep hD, HX.out.trans (GrC.Exc.of (hD.mono (Nat.le_trans hBw (by have := HX.out.size; exact this))))⟩
   | false =>
    have E := Lib.hid (NO.out hov);rw [hov] at HH;clear YES NO hov
    refine wp_region_class (S := PastV wr) (by kernel_rfl) (by kernel_rfl) (Below.refl _ _).drew ?_
    repeat (go_big_quiet_step (first | (go_at_call 83; first | (with_reducible exact class_call ST.out _ (HH.out _)))))
    refine wpQuiet_nil ?_
    rintro _ ⟨D, rfl⟩
    have hD : Below wr.heap.size wr D.world := D.holds;replace HS := Lib.hid (HS.out.keep hD);replace OO := Lib.hid (OO.out.keep hD);replace HX := Lib.hid (HX.out.trans (GrC.Exc.of (hD.mono (Nat.le_trans hBw (by have := HX.out.size; exact this)))));clear HH d0 d4 ST ne hD;generalize D.world = V at *;obtain ⟨q, hq⟩ : ∃ q, q = lo + k := ⟨_, rfl⟩
    have hqs : q < 1000000 := by omega
    have t8 := (HS.out.opeAt hiC).1;have f8 := (HS.out.opeAt hiC).2;have c8 := HS.out.gro.cell (i := 8) (v := .slice (some ⟨C.ob, 0, none⟩) C.n C.n) rfl
    simp only [if_pos, ← hq] at t8
    have i1 : (i : Int) < (C.n : Int) := by omega
    have hw : IntKind.i64.wrap (((q : Nat) : Int) + 1) = ((q + 1 : Nat) : Int) := by rw [IntKind.wrap_i64]; omega
    have HS9 := Lib.hid ((HS.out.setO hiC (q + 1)).same (op' := fun j => if j = i then lo + (k + 1) else op j) (fun _ _ => rfl) (fun _ _ => rfl) (fun j _ => by
     by_cases e : j = i
     ·rw [if_pos e, if_pos e]; omega
     ·rw [if_neg e, if_neg e, if_neg e]))
    have HX9 := Lib.hid (HX.out.set (i := i) (.inr (.inr (.inr rfl))) (.int .i64 ((q + 1 : Nat) : Int)));have OO9 := Lib.hid (ownI_set (i := i) (x := .int .i64 ((q + 1 : Nat) : Int)) OO.out (Nat.lt_of_lt_of_le (HS.out.sep.four C.ob (.inr (.inr (.inr rfl)))).2 hB));clear hq HS HX OO
    go_wp2
    go_roundw
    case rel => exact ⟨k + 1, by go_num, hlt, E.out, HS9.out, OO9.out, HX9.out⟩
    case measure => simp [intOf]; omega
  ·obtain rfl : k = m := by omega
   have HA : Hid (∀ q, q < l.length → ovB FV FC ax.toNat i (l.getD q 0).toNat = false) := Lib.hid (fun q hq => by
    rcases Nat.lt_or_ge q lo with u | u
    ·exact hpo'.out q u
    ·have := HR.out (q - lo) (by have := HMM.out; omega)
     rwa [show lo + (q - lo) = q by omega] at this)
   have E : Hid ((l.all fun k => !ovB FV FC ax.toNat i k.toNat) = true) := Lib.hid (by
    rw [List.all_eq_true]
    intro x hx
    obtain ⟨q, hq, rfl⟩ := List.mem_iff_getElem.1 hx;have z := HA.out q hq;rw [List.getD_eq_getElem?_getD, List.getElem?_eq_getElem hq, Option.getD_some] at z
    rw [z]; rfl)
   have OPN : Hid (OpI FV FC n4 ax l (fun j => if j = i then lo + k else op j)) := Lib.hid (fun j hj => by
    by_cases e : j = i
    ·simp only [if_pos e]
     exact ⟨by have := HMM.out; omega, fun q hq => by rw [e]; exact HA.out q (by have := HMM.out; omega)⟩
    ·simp only [if_neg e]
     exact OP.out j hj)
   go_wp2
   go_ret
   exact ⟨by rw [E.out]; rfl, ⟨_, HS.out, OPN.out⟩, OO.out, HX.out⟩
end Go.Proofs.YtcnbbanpnoigdaaGreat
namespace Go.Proofs.YtcnbbanpnoigdaaGreat
open Go.RowKit

structure GrFor (C : GrC) (w0 : World) (pa1 pa2 pa3 pa4 : Option Addr) (n1 n2 n3 n4 c1 c2 c3 c4 : Nat) (FV FC : Nat → Nat → Int) (EL : List EdL) : Prop where
 n : C.n = n4
 mc : C.mc = mshC pa1 pa2 pa3 pa4 n1 n2 n3 n4 c1 c2 c3 c4
 lo : C.lo = w0.heap.size
 A : ∀ i, i < n4 → C.A i = lfA FV FC i
 S : ∀ i, i < n4 → C.S i = lfS FV FC i
 K : ∀ i, i < n4 → C.K i = lfK FV FC i
 E : ∀ i : Nat, i < n4 → C.E i = esA EL (i : Int)
 N : C.N = EL.length
 small : EL.length ≤ 1000000
 few : n4 ≤ 1000000
theorem GrFor.rng {C : GrC} {w0 : World} {pa1 pa2 pa3 pa4 : Option Addr} {n1 n2 n3 n4 c1 c2 c3 c4 : Nat} {FV FC : Nat → Nat → Int} {EL : List EdL} (h : GrFor C w0 pa1 pa2 pa3 pa4 n1 n2 n3 n4 c1 c2 c3 c4 FV FC EL) {i : Nat} (hi : i < n4) : (∀ x ∈ C.E i, 0 ≤ x ∧ x < (C.N : Int)) ∧ (C.E i).length ≤ 1000000 := by
 rw [h.E i hi, h.N]
 exact ⟨fun x hx => esA_mem hx, Nat.le_trans (es_len EL _ _) h.small⟩
def GrC.Gs (C : GrC) (n4 : Nat) (FV FC : Nat → Nat → Int) (EL : List EdL) (W : World) (T : List Int) (ax sd : Int) (l : List Int) (B : Nat) : Prop :=
 ∃ v op, C.St W (fun i => isIn T (i : Int)) ax sd v (fun x => rcB EL l (x : Int)) op ∧ OwnI W B v l ∧ OpI FV FC n4 ax l op
def GrC.Wk (C : GrC) (W : World) (T : List Int) : Prop := ∃ ax sd v rc op, C.St W (fun i => isIn T (i : Int)) ax sd v rc op
theorem GrC.Gs.wk {C : GrC} {n4 : Nat} {FV FC : Nat → Nat → Int} {EL : List EdL} {W : World} {T : List Int} {ax sd : Int} {l : List Int} {B : Nat} (h : C.Gs n4 FV FC EL W T ax sd l B) : C.Wk W T := by
 obtain ⟨v, op, h1, _⟩ := h
 exact ⟨_, _, _, _, _, h1⟩
theorem GrC.Gs.keep {C : GrC} {n4 : Nat} {FV FC : Nat → Nat → Int} {EL : List EdL} {W W' : World} {T : List Int} {ax sd : Int} {l : List Int} {B : Nat} (h : C.Gs n4 FV FC EL W T ax sd l B) (hb : Below W.heap.size W W') : C.Gs n4 FV FC EL W' T ax sd l B := by
 obtain ⟨v, op, h1, h2, h3⟩ := h
 exact ⟨v, op, h1.keep hb, h2.keep hb, h3⟩
theorem GrC.Wk.keep {C : GrC} {W W' : World} {T : List Int} (h : C.Wk W T) (hb : Below W.heap.size W W') : C.Wk W' T := by
 obtain ⟨ax, sd, v, rc, op, h1⟩ := h
 exact ⟨ax, sd, v, rc, op, h1.keep hb⟩
theorem GrC.Wk.keepB {C : GrC} {W W' : World} {T : List Int} {B : Nat} (h : C.Wk W T) (hb : Below B W W') (hB : C.hi ≤ B) : C.Wk W' T := by
 obtain ⟨ax, sd, v, rc, op, h1⟩ := h
 exact ⟨ax, sd, v, rc, op, h1.keepB hb hB⟩
theorem GrC.Wk.sep {C : GrC} {W : World} {T : List Int} (h : C.Wk W T) : C.Sep := by
 obtain ⟨ax, sd, v, rc, op, h1⟩ := h
 exact h1.sep
theorem beginG (C : GrC) (n4 : Nat) (FV FC : Nat → Nat → Int) (EL : List EdL) (T : List Int) (ax sd : Int) (w : World) (h : C.Wk w T) :
  Calls Tryz.prog 35 #[.pointer (some ⟨C.g, 0, none⟩), .int .i64 ax, .int .i64 sd] w fun e w' => e = .returned (.tuple #[]) ∧ (∀ B, C.Gs n4 FV FC EL w' T ax sd [] B) ∧ C.Exc w.heap.size w w' := by
 obtain ⟨ax0, sd0, v, rc, op, h1⟩ := h
 refine (begin_any C _ ax0 sd0 v rc op ax sd w h1).mono fun e w' ⟨he, hs, hx⟩ => ⟨he, fun B => ⟨_, _, hs, OwnI.nil _ _, fun i _ => ⟨Nat.zero_le _, fun j hj => absurd hj (Nat.not_lt_zero j)⟩⟩, hx⟩
theorem putG {C : GrC} {w0 : World} {pa1 pa2 pa3 pa4 : Option Addr} {n1 n2 n3 n4 c1 c2 c3 c4 : Nat} {FV FC : Nat → Nat → Int} {EL : List EdL} (F : GrFor C w0 pa1 pa2 pa3 pa4 n1 n2 n3 n4 c1 c2 c3 c4 FV FC EL) (T : List Int) (ax sd : Int) (l : List Int) (B i : Nat) (w : World) (h : C.Gs n4 FV FC EL w T ax sd l B) (hB : C.hi ≤ B) (hBw : B ≤ w.heap.size) (hi : i < n4) (hll : l.length ≤ 1000000) :
  Calls Tryz.prog 37 #[.pointer (some ⟨C.g, 0, none⟩), .int .i64 i] w fun e w' => e = .returned (.tuple #[]) ∧ C.Gs n4 FV FC EL w' (T ++ [(i : Int)]) ax sd (l ++ [(i : Int)]) B ∧ C.Exc B w w' := by
 obtain ⟨v, op, h1, h2, h3⟩ := h;obtain ⟨r1, r2⟩ := F.rng hi
 refine (put_any C _ ax sd v l _ op B i w h1 h2 hB hBw (by rw [F.n]; exact hi) r1 r2 hll).mono fun e w' ⟨he, ⟨v', hs, ho⟩, hx⟩ => ⟨he, ⟨v', op, hs.same (fun j _ => ?_) (fun x _ => ?_) (fun _ _ => rfl), ho, fun j hj => ?_⟩, hx⟩
 ·by_cases e : j = i
  ·rw [if_pos e, isIn_iff.2 (List.mem_append.2 (.inr (by rw [e]; exact List.mem_singleton.2 rfl)))]
  ·rw [if_neg e, Bool.eq_iff_iff, isIn_iff, isIn_iff, List.mem_append, List.mem_singleton]
   exact ⟨.inl, fun q => q.elim id fun q => absurd q (by omega)⟩
 ·rw [rcB_snoc, F.E i hi]
 ·obtain ⟨a, b⟩ := h3 j hj
  refine ⟨by rw [List.length_append]; omega, fun q hq => ?_⟩
  rw [List.getD_eq_getElem?_getD, List.getElem?_append_left (by omega), ← List.getD_eq_getElem?_getD]
  exact b q hq
theorem waitsG {C : GrC} {w0 : World} {pa1 pa2 pa3 pa4 : Option Addr} {n1 n2 n3 n4 c1 c2 c3 c4 : Nat} {FV FC : Nat → Nat → Int} {EL : List EdL} (F : GrFor C w0 pa1 pa2 pa3 pa4 n1 n2 n3 n4 c1 c2 c3 c4 FV FC EL) (T : List Int) (i : Nat) (w : World) (h : C.Wk w T) (hi : i < n4) :
  Calls Tryz.prog 31 #[.pointer (some ⟨C.g, 0, none⟩), .int .i64 i] w fun e w' => e = .returned (.bool ((chF true n4 FV FC).wtB T (i : Int))) ∧ Below w.heap.size w w' := by
 obtain ⟨ax, sd, v, rc, op, h1⟩ := h
 have e : (chF true n4 FV FC).wtB T (i : Int) = (C.K i && !isIn T (i : Int)) := by
  unfold ChF.wtB;rw [(lf_at FV FC hi).2.2, F.K i hi]
 rw [e]
 exact waits_any C _ ax sd v rc op i w h1 (by rw [F.n]; exact hi)
theorem fb_looks {C : GrC} {w0 : World} {pa1 pa2 pa3 pa4 : Option Addr} {n1 n2 n3 n4 c1 c2 c3 c4 : Nat} {FV FC : Nat → Nat → Int} {EL : List EdL} (F : GrFor C w0 pa1 pa2 pa3 pa4 n1 n2 n3 n4 c1 c2 c3 c4 FV FC EL) (i ax sd : Int) : (plB i n4 && q21 (C.A i.toNat) (C.S i.toNat) (C.K i.toNat) ax sd true) = (chF true n4 FV FC).fb i ax sd := by
 cases hp : plB i n4 with
 | false =>
  obtain ⟨_, _, z⟩ := chF_out (t := true) (n := n4) (FV := FV) (FC := FC) (i := i) (by rw [hp]; rfl);unfold ChF.fb;rw [z]
  rfl
 | true =>
  have pl := plB_iff.1 hp;obtain ⟨k, rfl⟩ : ∃ k : Nat, i = (k : Int) := ⟨i.toNat, by omega⟩
  have hk : k < n4 := by omega
  rw [show ((k : Int)).toNat = k from by omega, F.A k hk, F.S k hk, F.K k hk, Bool.true_and, Bool.eq_iff_iff, q21_iff, ChF.fb_iff, (lf_at FV FC hk).1, (lf_at FV FC hk).2.1, (lf_at FV FC hk).2.2]
  exact ⟨fun ⟨a, b, c⟩ => ⟨c, a, b⟩, fun ⟨c, a, b⟩ => ⟨a, b, c⟩⟩
theorem looksG {C : GrC} {w0 : World} {pa1 pa2 pa3 pa4 : Option Addr} {n1 n2 n3 n4 c1 c2 c3 c4 : Nat} {FV FC : Nat → Nat → Int} {EL : List EdL} (F : GrFor C w0 pa1 pa2 pa3 pa4 n1 n2 n3 n4 c1 c2 c3 c4 FV FC EL) (T : List Int) (ax sd : Int) (l : List Int) (B : Nat) (i : Int) (w : World) (h : C.Gs n4 FV FC EL w T ax sd l B) :
  Calls Tryz.prog 36 #[.pointer (some ⟨C.g, 0, none⟩), .int .i64 i] w fun e w' => e = .returned (.bool ((chF true n4 FV FC).fb i ax sd)) ∧ Below w.heap.size w w' := by
 obtain ⟨v, op, h1, _, _⟩ := h;rw [← fb_looks F i ax sd]
 exact looks_any pa1 pa2 pa3 pa4 n1 n2 n3 n4 c1 c2 c3 c4 C F.n F.mc _ ax sd v _ op i w h1
theorem fb_place {n4 : Nat} {FV FC : Nat → Nat → Int} {i ax sd : Int} (h : (chF true n4 FV FC).fb i ax sd = true) : (∃ k : Nat, i = (k : Int) ∧ k < n4) ∧ axB ax := by
 obtain ⟨hK, hA, _⟩ := (ChF.fb_iff _).1 h;obtain ⟨p0, p1⟩ := chF_place hK;obtain ⟨k, rfl⟩ : ∃ k : Nat, i = (k : Int) := ⟨i.toNat, by omega⟩
 have hk : k < n4 := by omega
 refine ⟨⟨k, rfl, hk⟩, ?_⟩
 rw [(lf_at FV FC hk).1] at hA;rw [(lf_at FV FC hk).2.2] at hK;unfold lfA at hA;unfold lfK at hK;rw [fcA_at (fcE_ok hK)] at hA;rw [← hA];have := axF_3 (nmA FV FC k) (nmB FV FC k) (nmC FV FC k);unfold axB
 omega
theorem any_toNat {L : List Int} {p : Int → Bool} (h : ∀ x ∈ L, 0 ≤ x) : (L.any fun x => p ((x.toNat : Nat) : Int)) = L.any p := by
 rw [Bool.eq_iff_iff, List.any_eq_true, List.any_eq_true]
 constructor
 ·rintro ⟨x, hx, q⟩
  have := h x hx;rw [show ((x.toNat : Nat) : Int) = x by omega] at q
  exact ⟨x, hx, q⟩
 ·rintro ⟨x, hx, q⟩
  have := h x hx
  exact ⟨x, hx, by rw [show ((x.toNat : Nat) : Int) = x by omega]; exact q⟩
set_option maxRecDepth 100000 in
set_option maxHeartbeats 8000000 in
theorem fitsG {C : GrC} {w0 : World} {pa1 pa2 pa3 pa4 : Option Addr} {n1 n2 n3 n4 c1 c2 c3 c4 : Nat} {FV FT FN FC : Nat → Nat → Int} {EL : List EdL} (F : GrFor C w0 pa1 pa2 pa3 pa4 n1 n2 n3 n4 c1 c2 c3 c4 FV FC EL) (hm : MsW w0 pa1 pa2 pa3 pa4 n1 n2 n3 n4 FV FT FN FC) (ht : tmB n1 n2 n3 n4 FV FT FN FC = true) (T : List Int) (ax sd : Int) (l : List Int) (B : Nat) (i : Int) (w : World) (h0 : Below w0.heap.size w0 w) (h : C.Gs n4 FV FC EL w T ax sd l B) (hB : C.hi ≤ B) (hBw : B ≤ w.heap.size) (hl : ∀ x ∈ l, 0 ≤ x ∧ x < (n4 : Int)) (hll : l.length ≤ 1000000) :
  Calls Tryz.prog 38 #[.pointer (some ⟨C.g, 0, none⟩), .int .i64 i] w fun e w' => e = .returned (.bool ((chF true n4 FV FC).pfB EL T ax sd l i)) ∧ C.Gs n4 FV FC EL w' T ax sd l B ∧ C.Exc B w w' := by
 have LK := Lib.hid (looksG F T ax sd l B i w h);have G0 := Lib.hid h;unfold ChF.pfB
 cases hf : (chF true n4 FV FC).fb i ax sd with
 | false =>
  rw [hf] at LK;rw [Bool.false_and];clear hf h
  go_enter Tryz.func38, Tryz.ntmps38
  go_wp2_with fail
  ((with_reducible refine LK.out.mono ?_); rintro e w1 ⟨rfl, hb1⟩);clear LK;replace G0 := Lib.hid (G0.out.keep hb1);have X1 := Lib.hid (GrC.Exc.of (C := C) (hb1.mono hBw));clear hb1
  go_wp2
  go_ret
  exact ⟨rfl, G0.out, X1.out⟩
 | true =>
  rw [hf] at LK;rw [Bool.true_and];obtain ⟨⟨k, rfl, hk⟩, hax⟩ := fb_place hf;clear hf h
  have hkC : k < C.n := by rw [F.n]; exact hk
  have i0 : (0 : Int) ≤ (k : Int) := by omega
  have i1 : (k : Int) < (C.n : Int) := by omega
  have i2 : ((k : Int)).toNat = k := by omega
  obtain ⟨r1, r2⟩ := F.rng hk;have R1 := Lib.hid r1;have hlenC : Hid (C.lo = w0.heap.size) := Lib.hid F.lo
  have HG := Lib.hid (fun (x : World) v op (q : C.St x (fun i => isIn T (i : Int)) ax sd v (fun x => rcB EL l (x : Int)) op) (o : OwnI x B v l) => by
   obtain ⟨a, c, e, _⟩ := rowI_of_own o;subst e
   exact hangs_any C _ ax sd a l c _ op k x q hkC R1.out r2 hll)
  have EH : Hid ((C.E k).any (fun x => rcB EL l ((x.toNat : Nat) : Int)) = hgB EL l (k : Int)) := Lib.hid (by
   rw [any_toNat (p := rcB EL l) (fun x hx => (r1 x hx).1), F.E k hk]; rfl)
  clear r1;have SN := Lib.hid (fun (x : World) (q0 : Below w0.heap.size w0 x) v op (q : C.St x (fun i => isIn T (i : Int)) ax sd v (fun x => rcB EL l (x : Int)) op) (o : OwnI x B v l) (p : OpI FV FC n4 ax l op) (hBx : B ≤ x.heap.size) => seen_any pa1 pa2 pa3 pa4 n1 n2 n3 n4 c1 c2 c3 c4 FV FT FN FC w0 hm ht C F.n F.mc F.lo _ ax sd v l _ op B k x q0 q o hB hBx hk hax hl hll p)
  cases hT : isIn T (k : Int) with
  | true =>
   rw [Bool.not_true, Bool.false_and];clear HG SN
   go_enter Tryz.func38, Tryz.ntmps38
   go_wp2_with fail
   ((with_reducible refine LK.out.mono ?_); rintro e w1 ⟨rfl, hb1⟩);clear LK;replace G0 := Lib.hid (G0.out.keep hb1);have X1 := Lib.hid (GrC.Exc.of (C := C) (hb1.mono hBw));clear hb1;obtain ⟨v, op, s1, s2, s3⟩ := G0.out;have t0 := (s1.takAt hkC).1;rw [hT] at t0;have c3 := s1.gro.cell (i := 3) (v := .slice (some ⟨C.tb, 0, none⟩) C.n C.n) rfl;clear s1 s2 s3 hT
   go_wp2
   go_ret
   exact ⟨rfl, G0.out, X1.out⟩
  | false =>
   rw [Bool.not_false, Bool.true_and]
   cases hh : (hgB EL l (k : Int) || l.isEmpty) with
   | false =>
    rw [Bool.false_and];clear SN
    go_enter Tryz.func38, Tryz.ntmps38
    go_wp2_with fail
    ((with_reducible refine LK.out.mono ?_); rintro e w1 ⟨rfl, hb1⟩);clear LK;replace G0 := Lib.hid (G0.out.keep hb1);have X1 := Lib.hid (GrC.Exc.of (C := C) (hb1.mono hBw));have hBw1 := Nat.le_trans hBw hb1.size;clear hb1;obtain ⟨v, op, s1, s2, s3⟩ := G0.out;have t0 := (s1.takAt hkC).1;rw [hT] at t0;have c3 := s1.gro.cell (i := 3) (v := .slice (some ⟨C.tb, 0, none⟩) C.n C.n) rfl;have hg := HG.out w1 v op s1 s2;rw [EH.out, hh] at hg;replace hg := Lib.hid hg;clear s1 s2 s3 hT hh HG
    go_wp2_with fail
    ((with_reducible refine hg.out.mono ?_); rintro e w2 ⟨rfl, hb2⟩);replace G0 := Lib.hid (G0.out.keep hb2);replace X1 := Lib.hid (X1.out.trans (GrC.Exc.of (C := C) (hb2.mono hBw1)));clear hg hb2 t0 c3
    go_wp2
    go_ret
    exact ⟨rfl, G0.out, X1.out⟩
   | true =>
    rw [Bool.true_and];have hlhi := hB
    go_enter Tryz.func38, Tryz.ntmps38
    go_wp2_with fail
    ((with_reducible refine LK.out.mono ?_); rintro e w1 ⟨rfl, hb1⟩);clear LK;replace G0 := Lib.hid (G0.out.keep hb1);have X1 := Lib.hid (GrC.Exc.of (C := C) (hb1.mono hBw));have hBw1 := Nat.le_trans hBw hb1.size;have B1 := Lib.hid (h0.trans (hb1.mono h0.size));clear hb1;obtain ⟨v, op, s1, s2, s3⟩ := G0.out;have t0 := (s1.takAt hkC).1;rw [hT] at t0;have c3 := s1.gro.cell (i := 3) (v := .slice (some ⟨C.tb, 0, none⟩) C.n C.n) rfl;have hg := HG.out w1 v op s1 s2;rw [EH.out, hh] at hg;replace hg := Lib.hid hg;have S1 := Lib.hid s1;have S2 := Lib.hid s2;have S3 := Lib.hid s3;clear s1 s2 s3 hT hh HG
    go_wp2_with fail
    ((with_reducible refine hg.out.mono ?_); rintro e w2 ⟨rfl, hb2⟩);replace X1 := Lib.hid (X1.out.trans (GrC.Exc.of (C := C) (hb2.mono hBw1)));have sn := Lib.hid (SN.out w2 (B1.out.trans (hb2.mono B1.out.size)) v op (S1.out.keep hb2) (S2.out.keep hb2) S3.out (Nat.le_trans hBw1 hb2.size));clear hg hb2 t0 c3 SN G0
    go_wp2_with fail
    ((with_reducible refine sn.out.mono ?_); rintro e w3 ⟨rfl, ⟨op', q1, q2⟩, q3, q4⟩);have G1 : Hid (C.Gs n4 FV FC EL w3 T ax sd l B) := Lib.hid ⟨v, op', q1, q3, q2⟩;have X3 := Lib.hid (X1.out.trans q4);clear sn q1 q2 q3 q4
    go_wp2
    go_ret
    exact ⟨rfl, G1.out, X3.out⟩
end Go.Proofs.YtcnbbanpnoigdaaGreat
