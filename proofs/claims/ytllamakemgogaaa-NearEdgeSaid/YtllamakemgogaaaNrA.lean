/-
  Contracts of package near and of its reference: dot, down, apart, square. (gen/NrA.py)
-/
import Derived.Test.YtllamakemgogaaaGaA
import Derived.Test.YtllamakemgogaaaGaB
import Derived.Test.YtllamakemgogaaaGaD
namespace Go.Proofs.Ytllamakemgogaaa
open Go.RowKit

set_option maxRecDepth 100000 in
set_option maxHeartbeats 4000000 in
theorem ndot_any (x y u v : Int) (hx : SM 8192 x) (hy : SM 8192 y) (hu : SM 8192 u) (hv : SM 8192 v) (w : World) :
    Calls Try.prog 44 #[.agg #[.int .i64 x, .int .i64 y], .agg #[.int .i64 u, .int .i64 v]] w fun e' w' => e' = .returned (.int .i64 (x * u + y * v)) ∧ Below w.heap.size w w' := by
  have HB := Lib.hid (Below.refl w.heap.size w)
  have p := prod_bd (a := x) (b := u) (by unfold SM at *; omega) (by unfold SM at *; omega)
  have q := prod_bd (a := y) (b := v) (by unfold SM at *; omega) (by unfold SM at *; omega)
  have e1 : IntKind.i64.wrap (x * u) = x * u := IntWalk.i64_in _ (by omega)
  have e2 : IntKind.i64.wrap (y * v) = y * v := IntWalk.i64_in _ (by omega)
  have e3 : IntKind.i64.wrap (x * u + y * v) = x * u + y * v := IntWalk.i64_in _ (by omega)
  clear p q hx hy hu hv
  go_enter Try.func44, Try.ntmps44
  go_upto_region 1 with fail
  have hbk := below_new1 w (.cells #[.int .i64 x, .int .i64 y] 23)
  have zk : (w.alloc (.cells #[.int .i64 x, .int .i64 y] 23)).heap.size = w.heap.size + 1 := by simp
  have HB := Lib.hid hbk
  have kk := Lib.hid (Lok.new w 23 #[.int .i64 x, .int .i64 y])
  clear hbk
  generalize w.alloc (.cells #[.int .i64 x, .int .i64 y] 23) = Vk at *
  have hbl := below_new1 Vk (.cells #[.int .i64 u, .int .i64 v] 23)
  replace kk := Lib.hid (kk.out.keep hbl)
  have zl : (Vk.alloc (.cells #[.int .i64 u, .int .i64 v] 23)).heap.size = Vk.heap.size + 1 := by simp
  replace HB := Lib.hid (HB.out.trans (hbl.mono HB.out.size))
  have kl := Lib.hid (Lok.new Vk 23 #[.int .i64 u, .int .i64 v])
  clear hbl
  generalize Vk.alloc (.cells #[.int .i64 u, .int .i64 v] 23) = Vl at *
  rw [zk] at kl
  clear zk zl
  have k0 := kk.out.cell (i := 0) rfl
  have k1 := kk.out.cell (i := 1) rfl
  have l0 := kl.out.cell (i := 0) rfl
  have l1 := kl.out.cell (i := 1) rfl
  go_wp2_with fail
  clear k0 k1 l0 l1
  go_wp2
  go_ret
  exact ⟨rfl, HB.out⟩
set_option maxRecDepth 100000 in
set_option maxHeartbeats 4000000 in
theorem down_any (n d : Int) (hd : 1 ≤ d) (i : In64 n) (j : In64 d) (w : World) :
    Calls Try.prog 34 #[.int .i64 n, .int .i64 d] w fun e' w' => e' = .returned (.int .i64 (n / d)) ∧ Below w.heap.size w w' := by
  have HB := Lib.hid (Below.refl w.heap.size w)
  have F := Lib.hid (fun W => floor2_any n d W i j)
  have e : fQ n d = n / d := by unfold fQ; rw [fE_ok ⟨by omega, fun k => by omega⟩, if_pos rfl]; exact flQ_div n d hd
  rw [e] at F
  generalize n / d = q at *
  generalize fR n d = r at *
  generalize fE n d = e0 at *
  clear e hd i j
  go_enter Try.func34, Try.ntmps34
  go_wp2_with fail
  (((with_reducible refine (F.out _).mono ?_); rintro e w1 ⟨rfl, hb1⟩); replace HB := Lib.hid (HB.out.trans (hb1.mono HB.out.size)); clear hb1)
  go_wp2
  go_ret
  exact ⟨rfl, HB.out⟩
set_option maxRecDepth 100000 in
set_option maxHeartbeats 4000000 in
theorem rdown_any (n d : Int) (hd : 1 ≤ d) (i : In64 n) (j : In64 d) (w : World) :
    Calls Try.prog 26 #[.int .i64 n, .int .i64 d] w fun e' w' => e' = .returned (.int .i64 (n / d)) ∧ Below w.heap.size w w' := by
  have HB := Lib.hid (Below.refl w.heap.size w)
  have F := Lib.hid (fun W => rfloor_any n d W i j)
  have e : fQ n d = n / d := by unfold fQ; rw [fE_ok ⟨by omega, fun k => by omega⟩, if_pos rfl]; exact flQ_div n d hd
  rw [e] at F
  generalize n / d = q at *
  generalize fR n d = r at *
  generalize fE n d = e0 at *
  clear e hd i j
  go_enter Try.func26, Try.ntmps26
  go_wp2_with fail
  (((with_reducible refine (F.out _).mono ?_); rintro e w1 ⟨rfl, hb1⟩); replace HB := Lib.hid (HB.out.trans (hb1.mono HB.out.size)); clear hb1)
  go_wp2
  go_ret
  exact ⟨rfl, HB.out⟩
theorem dif_sm {a b : Int} (h : SM 4096 a) (k : SM 4096 b) : SM 8192 (a - b) := by unfold SM at *; omega
set_option maxRecDepth 100000 in
set_option maxHeartbeats 4000000 in
theorem apart_any (a1 a2 b1 b2 : Int) (ha : s2 a1 a2 = true) (hb : s2 b1 b2 = true) (w : World) :
    Calls Try.prog 45 #[.agg #[.int .i64 a1, .int .i64 a2], .agg #[.int .i64 b1, .int .i64 b2]] w fun e' w' => e' = .returned (.agg #[.int .i64 (sq a1 a2 b1 b2), .int .i64 1]) ∧ Below w.heap.size w w' := by
  have HB := Lib.hid (Below.refl w.heap.size w)
  have U := Lib.hid (fun W => sub2_sm ha hb W)
  have D := Lib.hid (fun W => ndot_any (b1 - a1) (b2 - a2) (b1 - a1) (b2 - a2) (dif_sm (s2_iff.1 hb).1 (s2_iff.1 ha).1) (dif_sm (s2_iff.1 hb).2 (s2_iff.1 ha).2) (dif_sm (s2_iff.1 hb).1 (s2_iff.1 ha).1) (dif_sm (s2_iff.1 hb).2 (s2_iff.1 ha).2) W)
  rw [show (b1 - a1) * (b1 - a1) + (b2 - a2) * (b2 - a2) = sq a1 a2 b1 b2 from rfl] at D
  generalize sq a1 a2 b1 b2 = n at *
  generalize hd1 : b1 - a1 = d1 at *
  generalize hd2 : b2 - a2 = d2 at *
  clear ha hb hd1 hd2
  go_enter Try.func45, Try.ntmps45
  go_upto_region 1 with fail
  have hbx := below_new1 w (.cells #[.int .i64 a1, .int .i64 a2] 23)
  have zx : (w.alloc (.cells #[.int .i64 a1, .int .i64 a2] 23)).heap.size = w.heap.size + 1 := by simp
  have HB := Lib.hid hbx
  have kx := Lib.hid (Lok.new w 23 #[.int .i64 a1, .int .i64 a2])
  clear hbx
  generalize w.alloc (.cells #[.int .i64 a1, .int .i64 a2] 23) = Vx at *
  have hby := below_new1 Vx (.cells #[.int .i64 b1, .int .i64 b2] 23)
  replace kx := Lib.hid (kx.out.keep hby)
  have zy : (Vx.alloc (.cells #[.int .i64 b1, .int .i64 b2] 23)).heap.size = Vx.heap.size + 1 := by simp
  replace HB := Lib.hid (HB.out.trans (hby.mono HB.out.size))
  have ky := Lib.hid (Lok.new Vx 23 #[.int .i64 b1, .int .i64 b2])
  clear hby
  generalize Vx.alloc (.cells #[.int .i64 b1, .int .i64 b2] 23) = Vy at *
  rw [zx] at ky zy
  have hbz := below_new1 Vy (.cells #[.int .i64 0, .int .i64 0] 29)
  replace kx := Lib.hid (kx.out.keep hbz)
  replace ky := Lib.hid (ky.out.keep hbz)
  have zz : (Vy.alloc (.cells #[.int .i64 0, .int .i64 0] 29)).heap.size = Vy.heap.size + 1 := by simp
  replace HB := Lib.hid (HB.out.trans (hbz.mono HB.out.size))
  have kz := Lib.hid (Lok.new Vy 29 #[.int .i64 0, .int .i64 0])
  clear hbz
  generalize Vy.alloc (.cells #[.int .i64 0, .int .i64 0] 29) = Vz at *
  rw [zy] at kz
  clear zx zy zz
  have x0 := kx.out.cell (i := 0) rfl
  have x1 := kx.out.cell (i := 1) rfl
  have y0 := ky.out.cell (i := 0) rfl
  have y1 := ky.out.cell (i := 1) rfl
  go_wp2_with fail
  clear x0 x1 y0 y1
  ((with_reducible refine (U.out _).mono ?_); rintro e wr ⟨rfl, hbr⟩)
  replace HB := Lib.hid (HB.out.trans (hbr.mono HB.out.size))
  replace kx := Lib.hid (kx.out.keep hbr)
  replace ky := Lib.hid (ky.out.keep hbr)
  replace kz := Lib.hid (kz.out.keep hbr)
  clear hbr
  go_wp2_with fail
  have hbr := below_new1 wr (.cells #[.int .i64 d1, .int .i64 d2] 23)
  replace HB := Lib.hid (HB.out.trans (hbr.mono HB.out.size))
  replace kx := Lib.hid (kx.out.keep hbr)
  replace ky := Lib.hid (ky.out.keep hbr)
  replace kz := Lib.hid (kz.out.keep hbr)
  have kr := Lib.hid (Lok.new wr 23 #[.int .i64 d1, .int .i64 d2])
  clear hbr
  generalize wr.alloc (.cells #[.int .i64 d1, .int .i64 d2] 23) = Vr at *
  generalize wr.heap.size = gr at *
  have r0 := kr.out.cell (i := 0) rfl
  have r1 := kr.out.cell (i := 1) rfl
  go_wp2_with fail
  clear r0 r1
  (((with_reducible refine (D.out _).mono ?_); rintro e w2 ⟨rfl, hb2⟩); replace HB := Lib.hid (HB.out.trans (hb2.mono HB.out.size)); replace kx := Lib.hid (kx.out.keep hb2); replace ky := Lib.hid (ky.out.keep hb2); replace kz := Lib.hid (kz.out.keep hb2); replace kr := Lib.hid (kr.out.keep hb2); clear hb2)
  have z0 := kz.out.cell (i := 0) rfl
  have z1 := kz.out.cell (i := 1) rfl
  have fz0 := kz.out.frozen 0
  have fz1 := kz.out.frozen 1
  go_wp2_with fail
  exact bodyPost_ret (v := .agg #[.int .i64 n, .int .i64 1]) (by simp [results, Try.results45, go_sem, z0, z1]) rfl ⟨rfl, (HB.out.setCell (by simp <;> omega) _).setCell (by simp <;> omega) _⟩
set_option maxRecDepth 100000 in
set_option maxHeartbeats 4000000 in
theorem rsquare_any (a1 a2 b1 b2 : Int) (ha : s2 a1 a2 = true) (hb : s2 b1 b2 = true) (w : World) :
    Calls Try.prog 24 #[.agg #[.int .i64 a1, .int .i64 a2], .agg #[.int .i64 b1, .int .i64 b2]] w fun e' w' => e' = .returned (.int .i64 (sq a1 a2 b1 b2)) ∧ Below w.heap.size w w' := by
  have HB := Lib.hid (Below.refl w.heap.size w)
  obtain ⟨h1, h2⟩ := s2_iff.1 ha
  obtain ⟨i1, i2⟩ := s2_iff.1 hb
  unfold SM at *
  have p := prod_bd (a := b1 - a1) (b := b1 - a1) (by omega) (by omega)
  have q := prod_bd (a := b2 - a2) (b := b2 - a2) (by omega) (by omega)
  have f1 : IntKind.i64.wrap (b1 - a1) = b1 - a1 := IntWalk.i64_in _ (by omega)
  have f2 : IntKind.i64.wrap (b2 - a2) = b2 - a2 := IntWalk.i64_in _ (by omega)
  have e1 : IntKind.i64.wrap ((b1 - a1) * (b1 - a1)) = (b1 - a1) * (b1 - a1) := IntWalk.i64_in _ (by omega)
  have e2 : IntKind.i64.wrap ((b2 - a2) * (b2 - a2)) = (b2 - a2) * (b2 - a2) := IntWalk.i64_in _ (by omega)
  have e3 : IntKind.i64.wrap ((b1 - a1) * (b1 - a1) + (b2 - a2) * (b2 - a2)) = (b1 - a1) * (b1 - a1) + (b2 - a2) * (b2 - a2) := IntWalk.i64_in _ (by omega)
  unfold sq
  clear p q h1 h2 i1 i2 ha hb
  go_enter Try.func24, Try.ntmps24
  go_upto_region 1 with fail
  have hbk := below_new1 w (.cells #[.int .i64 a1, .int .i64 a2] 23)
  have zk : (w.alloc (.cells #[.int .i64 a1, .int .i64 a2] 23)).heap.size = w.heap.size + 1 := by simp
  have HB := Lib.hid hbk
  have kk := Lib.hid (Lok.new w 23 #[.int .i64 a1, .int .i64 a2])
  clear hbk
  generalize w.alloc (.cells #[.int .i64 a1, .int .i64 a2] 23) = Vk at *
  have hbl := below_new1 Vk (.cells #[.int .i64 b1, .int .i64 b2] 23)
  replace kk := Lib.hid (kk.out.keep hbl)
  have zl : (Vk.alloc (.cells #[.int .i64 b1, .int .i64 b2] 23)).heap.size = Vk.heap.size + 1 := by simp
  replace HB := Lib.hid (HB.out.trans (hbl.mono HB.out.size))
  have kl := Lib.hid (Lok.new Vk 23 #[.int .i64 b1, .int .i64 b2])
  clear hbl
  generalize Vk.alloc (.cells #[.int .i64 b1, .int .i64 b2] 23) = Vl at *
  rw [zk] at kl
  clear zk zl
  have k0 := kk.out.cell (i := 0) rfl
  have k1 := kk.out.cell (i := 1) rfl
  have l0 := kl.out.cell (i := 0) rfl
  have l1 := kl.out.cell (i := 1) rfl
  go_wp2_with fail
  clear k0 k1 l0 l1
  go_wp2
  go_ret
  exact ⟨rfl, HB.out⟩
set_option maxRecDepth 100000 in
set_option maxHeartbeats 4000000 in
theorem lsquare_any (a1 a2 b1 b2 : Int) (ha : s2 a1 a2 = true) (hb : s2 b1 b2 = true) (w : World) :
    Calls Try.prog 20 #[.agg #[.int .i64 a1, .int .i64 a2], .agg #[.int .i64 b1, .int .i64 b2]] w fun e' w' => e' = .returned (.int .i64 (sq a1 a2 b1 b2)) ∧ Below w.heap.size w w' := by
  have HB := Lib.hid (Below.refl w.heap.size w)
  obtain ⟨h1, h2⟩ := s2_iff.1 ha
  obtain ⟨i1, i2⟩ := s2_iff.1 hb
  unfold SM at *
  have p := prod_bd (a := b1 - a1) (b := b1 - a1) (by omega) (by omega)
  have q := prod_bd (a := b2 - a2) (b := b2 - a2) (by omega) (by omega)
  have f1 : IntKind.i64.wrap (b1 - a1) = b1 - a1 := IntWalk.i64_in _ (by omega)
  have f2 : IntKind.i64.wrap (b2 - a2) = b2 - a2 := IntWalk.i64_in _ (by omega)
  have e1 : IntKind.i64.wrap ((b1 - a1) * (b1 - a1)) = (b1 - a1) * (b1 - a1) := IntWalk.i64_in _ (by omega)
  have e2 : IntKind.i64.wrap ((b2 - a2) * (b2 - a2)) = (b2 - a2) * (b2 - a2) := IntWalk.i64_in _ (by omega)
  have e3 : IntKind.i64.wrap ((b1 - a1) * (b1 - a1) + (b2 - a2) * (b2 - a2)) = (b1 - a1) * (b1 - a1) + (b2 - a2) * (b2 - a2) := IntWalk.i64_in _ (by omega)
  unfold sq
  clear p q h1 h2 i1 i2 ha hb
  go_enter Try.func20, Try.ntmps20
  go_upto_region 1 with fail
  have hbk := below_new1 w (.cells #[.int .i64 a1, .int .i64 a2] 23)
  have zk : (w.alloc (.cells #[.int .i64 a1, .int .i64 a2] 23)).heap.size = w.heap.size + 1 := by simp
  have HB := Lib.hid hbk
  have kk := Lib.hid (Lok.new w 23 #[.int .i64 a1, .int .i64 a2])
  clear hbk
  generalize w.alloc (.cells #[.int .i64 a1, .int .i64 a2] 23) = Vk at *
  have hbl := below_new1 Vk (.cells #[.int .i64 b1, .int .i64 b2] 23)
  replace kk := Lib.hid (kk.out.keep hbl)
  have zl : (Vk.alloc (.cells #[.int .i64 b1, .int .i64 b2] 23)).heap.size = Vk.heap.size + 1 := by simp
  replace HB := Lib.hid (HB.out.trans (hbl.mono HB.out.size))
  have kl := Lib.hid (Lok.new Vk 23 #[.int .i64 b1, .int .i64 b2])
  clear hbl
  generalize Vk.alloc (.cells #[.int .i64 b1, .int .i64 b2] 23) = Vl at *
  rw [zk] at kl
  clear zk zl
  have k0 := kk.out.cell (i := 0) rfl
  have k1 := kk.out.cell (i := 1) rfl
  have l0 := kl.out.cell (i := 0) rfl
  have l1 := kl.out.cell (i := 1) rfl
  go_wp2_with fail
  clear k0 k1 l0 l1
  go_wp2
  go_ret
  exact ⟨rfl, HB.out⟩
end Go.Proofs.Ytllamakemgogaaa
