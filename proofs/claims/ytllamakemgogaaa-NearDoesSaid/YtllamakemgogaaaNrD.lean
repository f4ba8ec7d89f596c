/-
  The reference limewashref11: Edge. (gen/NrD.py)
-/
import Derived.Test.YtllamakemgogaaaNrA
import Derived.Test.YtllamakemgogaaaGaG
import Derived.Test.YtllamakemgogaaaMtD
namespace Go.Proofs.Ytllamakemgogaaa
open Go.RowKit

theorem em_pos {x y a1 a2 b1 b2 : Int} (h : 0 < em x y a1 a2 b1 b2) : 0 < sq a1 a2 b1 b2 := by
  rcases Int.lt_or_le 0 (sq a1 a2 b1 b2) with k | k
  · exact k
  · have n := sq_nn2 a1 a2 b1 b2
    obtain ⟨z1, z2⟩ := sq_zero2 (show sq a1 a2 b1 b2 = 0 by omega)
    subst z1 z2
    unfold em at h
    rw [Int.sub_self, Int.sub_self, Int.mul_zero, Int.mul_zero] at h
    omega
theorem part_div {a z n : Int} (h : 0 < n) : (a * n + z) / n = a + z / n := by
  rw [Int.add_comm (a * n), Int.add_mul_ediv_right _ _ (by omega), Int.add_comm]
set_option maxRecDepth 100000 in
set_option maxHeartbeats 4000000 in
theorem redge_no (x y a1 a2 b1 b2 : Int) (h : (s2 x y && s2 a1 a2 && s2 b1 b2) = false) (w : World) :
    Calls Try.prog 9 #[.agg #[.int .i64 x, .int .i64 y], .agg #[.int .i64 a1, .int .i64 a2], .agg #[.int .i64 b1, .int .i64 b2]] w fun e' w' => e' = .returned (.tuple #[.agg #[.int .i64 0, .int .i64 0], .int .i64 0, .agg #[.int .i64 0, .int .i64 0], .int .i64 5]) ∧ Below w.heap.size w w' := by
  have HB := Lib.hid (Below.refl w.heap.size w)
  have S1 := Lib.hid (fun W => rsmall2_any x y W)
  have S2 := Lib.hid (fun W => rsmall2_any a1 a2 W)
  have S3 := Lib.hid (fun W => rsmall2_any b1 b2 W)
  generalize s2 x y = u1 at *
  generalize s2 a1 a2 = u2 at *
  generalize s2 b1 b2 = u3 at *
  cases u1 with
  | false =>
    clear h S2 S3
    go_enter Try.func9, Try.ntmps9
    go_upto_region 1 with fail
    have hbx := below_new1 w (.cells #[.int .i64 x, .int .i64 y] 23)
    have zx : (w.alloc (.cells #[.int .i64 x, .int .i64 y] 23)).heap.size = w.heap.size + 1 := by simp
    have HB := Lib.hid hbx
    have kx := Lib.hid (Lok.new w 23 #[.int .i64 x, .int .i64 y])
    clear hbx
    generalize w.alloc (.cells #[.int .i64 x, .int .i64 y] 23) = Vx at *
    have hbp := below_new1 Vx (.cells #[.int .i64 a1, .int .i64 a2] 23)
    replace kx := Lib.hid (kx.out.keep hbp)
    have zp : (Vx.alloc (.cells #[.int .i64 a1, .int .i64 a2] 23)).heap.size = Vx.heap.size + 1 := by simp
    replace HB := Lib.hid (HB.out.trans (hbp.mono HB.out.size))
    have kp := Lib.hid (Lok.new Vx 23 #[.int .i64 a1, .int .i64 a2])
    clear hbp
    generalize Vx.alloc (.cells #[.int .i64 a1, .int .i64 a2] 23) = Vp at *
    rw [zx] at kp zp
    have hbq := below_new1 Vp (.cells #[.int .i64 b1, .int .i64 b2] 23)
    replace kx := Lib.hid (kx.out.keep hbq)
    replace kp := Lib.hid (kp.out.keep hbq)
    have zq : (Vp.alloc (.cells #[.int .i64 b1, .int .i64 b2] 23)).heap.size = Vp.heap.size + 1 := by simp
    replace HB := Lib.hid (HB.out.trans (hbq.mono HB.out.size))
    have kq := Lib.hid (Lok.new Vp 23 #[.int .i64 b1, .int .i64 b2])
    clear hbq
    generalize Vp.alloc (.cells #[.int .i64 b1, .int .i64 b2] 23) = Vq at *
    rw [zp] at kq zq
    have hbr := below_new1 Vq (.cells #[.int .i64 0, .int .i64 0] 23)
    replace kx := Lib.hid (kx.out.keep hbr)
    replace kp := Lib.hid (kp.out.keep hbr)
    replace kq := Lib.hid (kq.out.keep hbr)
    have zr : (Vq.alloc (.cells #[.int .i64 0, .int .i64 0] 23)).heap.size = Vq.heap.size + 1 := by simp
    replace HB := Lib.hid (HB.out.trans (hbr.mono HB.out.size))
    have kr := Lib.hid (Lok.new Vq 23 #[.int .i64 0, .int .i64 0])
    clear hbr
    generalize Vq.alloc (.cells #[.int .i64 0, .int .i64 0] 23) = Vr at *
    rw [zq] at kr zr
    have hbs := below_new1 Vr (.cells #[.int .i64 0, .int .i64 0] 29)
    replace kx := Lib.hid (kx.out.keep hbs)
    replace kp := Lib.hid (kp.out.keep hbs)
    replace kq := Lib.hid (kq.out.keep hbs)
    replace kr := Lib.hid (kr.out.keep hbs)
    have zs : (Vr.alloc (.cells #[.int .i64 0, .int .i64 0] 29)).heap.size = Vr.heap.size + 1 := by simp
    replace HB := Lib.hid (HB.out.trans (hbs.mono HB.out.size))
    have ks := Lib.hid (Lok.new Vr 29 #[.int .i64 0, .int .i64 0])
    clear hbs
    generalize Vr.alloc (.cells #[.int .i64 0, .int .i64 0] 29) = Vs at *
    rw [zr] at ks
    clear zx zp zq zr zs
    have x0 := kx.out.cell (i := 0) rfl
    have x1 := kx.out.cell (i := 1) rfl
    go_wp2_with fail
    clear x0 x1
    (((with_reducible refine (S1.out _).mono ?_); rintro e w1 ⟨rfl, hb1⟩); replace HB := Lib.hid (HB.out.trans (hb1.mono HB.out.size)); replace kx := Lib.hid (kx.out.keep hb1); replace kp := Lib.hid (kp.out.keep hb1); replace kq := Lib.hid (kq.out.keep hb1); replace kr := Lib.hid (kr.out.keep hb1); replace ks := Lib.hid (ks.out.keep hb1); clear hb1)
    have r0 := kr.out.cell (i := 0) rfl
    have r1 := kr.out.cell (i := 1) rfl
    have s0 := ks.out.cell (i := 0) rfl
    have s1 := ks.out.cell (i := 1) rfl
    have fr0 := kr.out.frozen 0
    have fr1 := kr.out.frozen 1
    have fs0 := ks.out.frozen 0
    have fs1 := ks.out.frozen 1
    go_wp2_with fail
    exact bodyPost_ret (v := .tuple #[.agg #[.int .i64 0, .int .i64 0], .int .i64 0, .agg #[.int .i64 0, .int .i64 0], .int .i64 5]) (by simp [results, Try.results9, go_sem, r0, r1, s0, s1]) rfl ⟨rfl, (((HB.out.setCell (by simp <;> omega) _).setCell (by simp <;> omega) _).setCell (by simp <;> omega) _).setCell (by simp <;> omega) _⟩
  | true =>
    cases u2 with
    | false =>
      clear h S3
      go_enter Try.func9, Try.ntmps9
      go_upto_region 1 with fail
      have hbx := below_new1 w (.cells #[.int .i64 x, .int .i64 y] 23)
      have zx : (w.alloc (.cells #[.int .i64 x, .int .i64 y] 23)).heap.size = w.heap.size + 1 := by simp
      have HB := Lib.hid hbx
      have kx := Lib.hid (Lok.new w 23 #[.int .i64 x, .int .i64 y])
      clear hbx
      generalize w.alloc (.cells #[.int .i64 x, .int .i64 y] 23) = Vx at *
      have hbp := below_new1 Vx (.cells #[.int .i64 a1, .int .i64 a2] 23)
      replace kx := Lib.hid (kx.out.keep hbp)
      have zp : (Vx.alloc (.cells #[.int .i64 a1, .int .i64 a2] 23)).heap.size = Vx.heap.size + 1 := by simp
      replace HB := Lib.hid (HB.out.trans (hbp.mono HB.out.size))
      have kp := Lib.hid (Lok.new Vx 23 #[.int .i64 a1, .int .i64 a2])
      clear hbp
      generalize Vx.alloc (.cells #[.int .i64 a1, .int .i64 a2] 23) = Vp at *
      rw [zx] at kp zp
      have hbq := below_new1 Vp (.cells #[.int .i64 b1, .int .i64 b2] 23)
      replace kx := Lib.hid (kx.out.keep hbq)
      replace kp := Lib.hid (kp.out.keep hbq)
      have zq : (Vp.alloc (.cells #[.int .i64 b1, .int .i64 b2] 23)).heap.size = Vp.heap.size + 1 := by simp
      replace HB := Lib.hid (HB.out.trans (hbq.mono HB.out.size))
      have kq := Lib.hid (Lok.new Vp 23 #[.int .i64 b1, .int .i64 b2])
      clear hbq
      generalize Vp.alloc (.cells #[.int .i64 b1, .int .i64 b2] 23) = Vq at *
      rw [zp] at kq zq
      have hbr := below_new1 Vq (.cells #[.int .i64 0, .int .i64 0] 23)
      replace kx := Lib.hid (kx.out.keep hbr)
      replace kp := Lib.hid (kp.out.keep hbr)
      replace kq := Lib.hid (kq.out.keep hbr)
      have zr : (Vq.alloc (.cells #[.int .i64 0, .int .i64 0] 23)).heap.size = Vq.heap.size + 1 := by simp
      replace HB := Lib.hid (HB.out.trans (hbr.mono HB.out.size))
      have kr := Lib.hid (Lok.new Vq 23 #[.int .i64 0, .int .i64 0])
      clear hbr
      generalize Vq.alloc (.cells #[.int .i64 0, .int .i64 0] 23) = Vr at *
      rw [zq] at kr zr
      have hbs := below_new1 Vr (.cells #[.int .i64 0, .int .i64 0] 29)
      replace kx := Lib.hid (kx.out.keep hbs)
      replace kp := Lib.hid (kp.out.keep hbs)
      replace kq := Lib.hid (kq.out.keep hbs)
      replace kr := Lib.hid (kr.out.keep hbs)
      have zs : (Vr.alloc (.cells #[.int .i64 0, .int .i64 0] 29)).heap.size = Vr.heap.size + 1 := by simp
      replace HB := Lib.hid (HB.out.trans (hbs.mono HB.out.size))
      have ks := Lib.hid (Lok.new Vr 29 #[.int .i64 0, .int .i64 0])
      clear hbs
      generalize Vr.alloc (.cells #[.int .i64 0, .int .i64 0] 29) = Vs at *
      rw [zr] at ks
      clear zx zp zq zr zs
      have x0 := kx.out.cell (i := 0) rfl
      have x1 := kx.out.cell (i := 1) rfl
      go_wp2_with fail
      clear x0 x1
      (((with_reducible refine (S1.out _).mono ?_); rintro e w1 ⟨rfl, hb1⟩); replace HB := Lib.hid (HB.out.trans (hb1.mono HB.out.size)); replace kx := Lib.hid (kx.out.keep hb1); replace kp := Lib.hid (kp.out.keep hb1); replace kq := Lib.hid (kq.out.keep hb1); replace kr := Lib.hid (kr.out.keep hb1); replace ks := Lib.hid (ks.out.keep hb1); clear hb1)
      have p0 := kp.out.cell (i := 0) rfl
      have p1 := kp.out.cell (i := 1) rfl
      go_wp2_with fail
      clear p0 p1
      (((with_reducible refine (S2.out _).mono ?_); rintro e w2 ⟨rfl, hb2⟩); replace HB := Lib.hid (HB.out.trans (hb2.mono HB.out.size)); replace kx := Lib.hid (kx.out.keep hb2); replace kp := Lib.hid (kp.out.keep hb2); replace kq := Lib.hid (kq.out.keep hb2); replace kr := Lib.hid (kr.out.keep hb2); replace ks := Lib.hid (ks.out.keep hb2); clear hb2)
      have r0 := kr.out.cell (i := 0) rfl
      have r1 := kr.out.cell (i := 1) rfl
      have s0 := ks.out.cell (i := 0) rfl
      have s1 := ks.out.cell (i := 1) rfl
      have fr0 := kr.out.frozen 0
      have fr1 := kr.out.frozen 1
      have fs0 := ks.out.frozen 0
      have fs1 := ks.out.frozen 1
      go_wp2_with fail
      exact bodyPost_ret (v := .tuple #[.agg #[.int .i64 0, .int .i64 0], .int .i64 0, .agg #[.int .i64 0, .int .i64 0], .int .i64 5]) (by simp [results, Try.results9, go_sem, r0, r1, s0, s1]) rfl ⟨rfl, (((HB.out.setCell (by simp <;> omega) _).setCell (by simp <;> omega) _).setCell (by simp <;> omega) _).setCell (by simp <;> omega) _⟩
    | true =>
      cases u3 with
      | true => cases h
      | false =>
        clear h
        go_enter Try.func9, Try.ntmps9
        go_upto_region 1 with fail
        have hbx := below_new1 w (.cells #[.int .i64 x, .int .i64 y] 23)
        have zx : (w.alloc (.cells #[.int .i64 x, .int .i64 y] 23)).heap.size = w.heap.size + 1 := by simp
        have HB := Lib.hid hbx
        have kx := Lib.hid (Lok.new w 23 #[.int .i64 x, .int .i64 y])
        clear hbx
        generalize w.alloc (.cells #[.int .i64 x, .int .i64 y] 23) = Vx at *
        have hbp := below_new1 Vx (.cells #[.int .i64 a1, .int .i64 a2] 23)
        replace kx := Lib.hid (kx.out.keep hbp)
        have zp : (Vx.alloc (.cells #[.int .i64 a1, .int .i64 a2] 23)).heap.size = Vx.heap.size + 1 := by simp
        replace HB := Lib.hid (HB.out.trans (hbp.mono HB.out.size))
        have kp := Lib.hid (Lok.new Vx 23 #[.int .i64 a1, .int .i64 a2])
        clear hbp
        generalize Vx.alloc (.cells #[.int .i64 a1, .int .i64 a2] 23) = Vp at *
        rw [zx] at kp zp
        have hbq := below_new1 Vp (.cells #[.int .i64 b1, .int .i64 b2] 23)
        replace kx := Lib.hid (kx.out.keep hbq)
        replace kp := Lib.hid (kp.out.keep hbq)
        have zq : (Vp.alloc (.cells #[.int .i64 b1, .int .i64 b2] 23)).heap.size = Vp.heap.size + 1 := by simp
        replace HB := Lib.hid (HB.out.trans (hbq.mono HB.out.size))
        have kq := Lib.hid (Lok.new Vp 23 #[.int .i64 b1, .int .i64 b2])
        clear hbq
        generalize Vp.alloc (.cells #[.int .i64 b1, .int .i64 b2] 23) = Vq at *
        rw [zp] at kq zq
        have hbr := below_new1 Vq (.cells #[.int .i64 0, .int .i64 0] 23)
        replace kx := Lib.hid (kx.out.keep hbr)
        replace kp := Lib.hid (kp.out.keep hbr)
        replace kq := Lib.hid (kq.out.keep hbr)
        have zr : (Vq.alloc (.cells #[.int .i64 0, .int .i64 0] 23)).heap.size = Vq.heap.size + 1 := by simp
        replace HB := Lib.hid (HB.out.trans (hbr.mono HB.out.size))
        have kr := Lib.hid (Lok.new Vq 23 #[.int .i64 0, .int .i64 0])
        clear hbr
        generalize Vq.alloc (.cells #[.int .i64 0, .int .i64 0] 23) = Vr at *
        rw [zq] at kr zr
        have hbs := below_new1 Vr (.cells #[.int .i64 0, .int .i64 0] 29)
        replace kx := Lib.hid (kx.out.keep hbs)
        replace kp := Lib.hid (kp.out.keep hbs)
        replace kq := Lib.hid (kq.out.keep hbs)
        replace kr := Lib.hid (kr.out.keep hbs)
        have zs : (Vr.alloc (.cells #[.int .i64 0, .int .i64 0] 29)).heap.size = Vr.heap.size + 1 := by simp
        replace HB := Lib.hid (HB.out.trans (hbs.mono HB.out.size))
        have ks := Lib.hid (Lok.new Vr 29 #[.int .i64 0, .int .i64 0])
        clear hbs
        generalize Vr.alloc (.cells #[.int .i64 0, .int .i64 0] 29) = Vs at *
        rw [zr] at ks
        clear zx zp zq zr zs
        have x0 := kx.out.cell (i := 0) rfl
        have x1 := kx.out.cell (i := 1) rfl
        go_wp2_with fail
        clear x0 x1
        (((with_reducible refine (S1.out _).mono ?_); rintro e w1 ⟨rfl, hb1⟩); replace HB := Lib.hid (HB.out.trans (hb1.mono HB.out.size)); replace kx := Lib.hid (kx.out.keep hb1); replace kp := Lib.hid (kp.out.keep hb1); replace kq := Lib.hid (kq.out.keep hb1); replace kr := Lib.hid (kr.out.keep hb1); replace ks := Lib.hid (ks.out.keep hb1); clear hb1)
        have p0 := kp.out.cell (i := 0) rfl
        have p1 := kp.out.cell (i := 1) rfl
        go_wp2_with fail
        clear p0 p1
        (((with_reducible refine (S2.out _).mono ?_); rintro e w2 ⟨rfl, hb2⟩); replace HB := Lib.hid (HB.out.trans (hb2.mono HB.out.size)); replace kx := Lib.hid (kx.out.keep hb2); replace kp := Lib.hid (kp.out.keep hb2); replace kq := Lib.hid (kq.out.keep hb2); replace kr := Lib.hid (kr.out.keep hb2); replace ks := Lib.hid (ks.out.keep hb2); clear hb2)
        have q0 := kq.out.cell (i := 0) rfl
        have q1 := kq.out.cell (i := 1) rfl
        go_wp2_with fail
        clear q0 q1
        (((with_reducible refine (S3.out _).mono ?_); rintro e w3 ⟨rfl, hb3⟩); replace HB := Lib.hid (HB.out.trans (hb3.mono HB.out.size)); replace kx := Lib.hid (kx.out.keep hb3); replace kp := Lib.hid (kp.out.keep hb3); replace kq := Lib.hid (kq.out.keep hb3); replace kr := Lib.hid (kr.out.keep hb3); replace ks := Lib.hid (ks.out.keep hb3); clear hb3)
        have r0 := kr.out.cell (i := 0) rfl
        have r1 := kr.out.cell (i := 1) rfl
        have s0 := ks.out.cell (i := 0) rfl
        have s1 := ks.out.cell (i := 1) rfl
        have fr0 := kr.out.frozen 0
        have fr1 := kr.out.frozen 1
        have fs0 := ks.out.frozen 0
        have fs1 := ks.out.frozen 1
        go_wp2_with fail
        exact bodyPost_ret (v := .tuple #[.agg #[.int .i64 0, .int .i64 0], .int .i64 0, .agg #[.int .i64 0, .int .i64 0], .int .i64 5]) (by simp [results, Try.results9, go_sem, r0, r1, s0, s1]) rfl ⟨rfl, (((HB.out.setCell (by simp <;> omega) _).setCell (by simp <;> omega) _).setCell (by simp <;> omega) _).setCell (by simp <;> omega) _⟩
set_option maxRecDepth 100000 in
set_option maxHeartbeats 4000000 in
theorem redge_0 (x y a1 a2 b1 b2 : Int) (hm : em x y a1 a2 b1 b2 ≤ 0) (hp : s2 x y = true) (ha : s2 a1 a2 = true) (hb : s2 b1 b2 = true) (w : World) :
    Calls Try.prog 9 #[.agg #[.int .i64 x, .int .i64 y], .agg #[.int .i64 a1, .int .i64 a2], .agg #[.int .i64 b1, .int .i64 b2]] w fun e' w' => e' = .returned (.tuple #[.agg #[.int .i64 a1, .int .i64 a2], .int .i64 0, .agg #[.int .i64 (sq x y a1 a2), .int .i64 1], .int .i64 0]) ∧ Below w.heap.size w w' := by
  have HB := Lib.hid (Below.refl w.heap.size w)
  have S1 := Lib.hid (fun W => rsmall2_any x y W)
  have S2 := Lib.hid (fun W => rsmall2_any a1 a2 W)
  have S3 := Lib.hid (fun W => rsmall2_any b1 b2 W)
  rw [hp] at S1
  rw [ha] at S2
  rw [hb] at S3
  have Q1 := Lib.hid (fun W => rsquare_any a1 a2 b1 b2 ha hb W)
  obtain ⟨hp1, hp2⟩ := s2_iff.1 hp
  obtain ⟨ha1, ha2⟩ := s2_iff.1 ha
  obtain ⟨hb1, hb2⟩ := s2_iff.1 hb
  have bn := sq_bd ha hb
  have bm := em_bd hp ha hb
  have br := ar_sq_bd ha hb hp
  unfold SM at hp1 hp2 ha1 ha2 hb1 hb2
  have w1' : IntKind.i64.wrap (x - a1) = x - a1 := IntWalk.i64_in _ (by omega)
  have w2' : IntKind.i64.wrap (y - a2) = y - a2 := IntWalk.i64_in _ (by omega)
  have w3' : IntKind.i64.wrap (b1 - a1) = b1 - a1 := IntWalk.i64_in _ (by omega)
  have w4' : IntKind.i64.wrap (b2 - a2) = b2 - a2 := IntWalk.i64_in _ (by omega)
  have p1 := prod_bd (a := x - a1) (b := b1 - a1) (by omega) (by omega)
  have p2 := prod_bd (a := y - a2) (b := b2 - a2) (by omega) (by omega)
  have w5' : IntKind.i64.wrap ((x - a1) * (b1 - a1)) = (x - a1) * (b1 - a1) := IntWalk.i64_in _ (by omega)
  have w6' : IntKind.i64.wrap ((y - a2) * (b2 - a2)) = (y - a2) * (b2 - a2) := IntWalk.i64_in _ (by omega)
  have w7' : IntKind.i64.wrap ((x - a1) * (b1 - a1) + (y - a2) * (b2 - a2)) = em x y a1 a2 b1 b2 := IntWalk.i64_in _ (by omega)
  have Q := Lib.hid (fun W => rsquare_any x y a1 a2 hp ha W)
  generalize sq x y a1 a2 = n0 at *
  generalize em x y a1 a2 b1 b2 = m at *
  generalize sq a1 a2 b1 b2 = n at *
  clear hp ha hb hp1 hp2 ha1 ha2 hb1 hb2 bn bm br p1 p2
  go_enter Try.func9, Try.ntmps9
  go_upto_region 1 with fail
  have hbx := below_new1 w (.cells #[.int .i64 x, .int .i64 y] 23)
  have zx : (w.alloc (.cells #[.int .i64 x, .int .i64 y] 23)).heap.size = w.heap.size + 1 := by simp
  have HB := Lib.hid hbx
  have kx := Lib.hid (Lok.new w 23 #[.int .i64 x, .int .i64 y])
  clear hbx
  generalize w.alloc (.cells #[.int .i64 x, .int .i64 y] 23) = Vx at *
  have hbp := below_new1 Vx (.cells #[.int .i64 a1, .int .i64 a2] 23)
  replace kx := Lib.hid (kx.out.keep hbp)
  have zp : (Vx.alloc (.cells #[.int .i64 a1, .int .i64 a2] 23)).heap.size = Vx.heap.size + 1 := by simp
  replace HB := Lib.hid (HB.out.trans (hbp.mono HB.out.size))
  have kp := Lib.hid (Lok.new Vx 23 #[.int .i64 a1, .int .i64 a2])
  clear hbp
  generalize Vx.alloc (.cells #[.int .i64 a1, .int .i64 a2] 23) = Vp at *
  rw [zx] at kp zp
  have hbq := below_new1 Vp (.cells #[.int .i64 b1, .int .i64 b2] 23)
  replace kx := Lib.hid (kx.out.keep hbq)
  replace kp := Lib.hid (kp.out.keep hbq)
  have zq : (Vp.alloc (.cells #[.int .i64 b1, .int .i64 b2] 23)).heap.size = Vp.heap.size + 1 := by simp
  replace HB := Lib.hid (HB.out.trans (hbq.mono HB.out.size))
  have kq := Lib.hid (Lok.new Vp 23 #[.int .i64 b1, .int .i64 b2])
  clear hbq
  generalize Vp.alloc (.cells #[.int .i64 b1, .int .i64 b2] 23) = Vq at *
  rw [zp] at kq zq
  have hbr := below_new1 Vq (.cells #[.int .i64 0, .int .i64 0] 23)
  replace kx := Lib.hid (kx.out.keep hbr)
  replace kp := Lib.hid (kp.out.keep hbr)
  replace kq := Lib.hid (kq.out.keep hbr)
  have zr : (Vq.alloc (.cells #[.int .i64 0, .int .i64 0] 23)).heap.size = Vq.heap.size + 1 := by simp
  replace HB := Lib.hid (HB.out.trans (hbr.mono HB.out.size))
  have kr := Lib.hid (Lok.new Vq 23 #[.int .i64 0, .int .i64 0])
  clear hbr
  generalize Vq.alloc (.cells #[.int .i64 0, .int .i64 0] 23) = Vr at *
  rw [zq] at kr zr
  have hbs := below_new1 Vr (.cells #[.int .i64 0, .int .i64 0] 29)
  replace kx := Lib.hid (kx.out.keep hbs)
  replace kp := Lib.hid (kp.out.keep hbs)
  replace kq := Lib.hid (kq.out.keep hbs)
  replace kr := Lib.hid (kr.out.keep hbs)
  have zs : (Vr.alloc (.cells #[.int .i64 0, .int .i64 0] 29)).heap.size = Vr.heap.size + 1 := by simp
  replace HB := Lib.hid (HB.out.trans (hbs.mono HB.out.size))
  have ks := Lib.hid (Lok.new Vr 29 #[.int .i64 0, .int .i64 0])
  clear hbs
  generalize Vr.alloc (.cells #[.int .i64 0, .int .i64 0] 29) = Vs at *
  rw [zr] at ks
  clear zx zp zq zr zs
  have x0 := kx.out.cell (i := 0) rfl
  have x1 := kx.out.cell (i := 1) rfl
  go_wp2_with fail
  clear x0 x1
  (((with_reducible refine (S1.out _).mono ?_); rintro e w1 ⟨rfl, hb1⟩); replace HB := Lib.hid (HB.out.trans (hb1.mono HB.out.size)); replace kx := Lib.hid (kx.out.keep hb1); replace kp := Lib.hid (kp.out.keep hb1); replace kq := Lib.hid (kq.out.keep hb1); replace kr := Lib.hid (kr.out.keep hb1); replace ks := Lib.hid (ks.out.keep hb1); clear hb1)
  have p0 := kp.out.cell (i := 0) rfl
  have p1 := kp.out.cell (i := 1) rfl
  go_wp2_with fail
  clear p0 p1
  (((with_reducible refine (S2.out _).mono ?_); rintro e w2 ⟨rfl, hb2⟩); replace HB := Lib.hid (HB.out.trans (hb2.mono HB.out.size)); replace kx := Lib.hid (kx.out.keep hb2); replace kp := Lib.hid (kp.out.keep hb2); replace kq := Lib.hid (kq.out.keep hb2); replace kr := Lib.hid (kr.out.keep hb2); replace ks := Lib.hid (ks.out.keep hb2); clear hb2)
  have q0 := kq.out.cell (i := 0) rfl
  have q1 := kq.out.cell (i := 1) rfl
  go_wp2_with fail
  clear q0 q1
  (((with_reducible refine (S3.out _).mono ?_); rintro e w3 ⟨rfl, hb3⟩); replace HB := Lib.hid (HB.out.trans (hb3.mono HB.out.size)); replace kx := Lib.hid (kx.out.keep hb3); replace kp := Lib.hid (kp.out.keep hb3); replace kq := Lib.hid (kq.out.keep hb3); replace kr := Lib.hid (kr.out.keep hb3); replace ks := Lib.hid (ks.out.keep hb3); clear hb3)
  clear S1 S2 S3
  have x0 := kx.out.cell (i := 0) rfl
  have x1 := kx.out.cell (i := 1) rfl
  have p0 := kp.out.cell (i := 0) rfl
  have p1 := kp.out.cell (i := 1) rfl
  have q0 := kq.out.cell (i := 0) rfl
  have q1 := kq.out.cell (i := 1) rfl
  go_wp2_with fail
  clear x0 x1 p0 p1 q0 q1
  (((with_reducible refine (Q1.out _).mono ?_); rintro e w4 ⟨rfl, hb4⟩); replace HB := Lib.hid (HB.out.trans (hb4.mono HB.out.size)); replace kx := Lib.hid (kx.out.keep hb4); replace kp := Lib.hid (kp.out.keep hb4); replace kq := Lib.hid (kq.out.keep hb4); replace kr := Lib.hid (kr.out.keep hb4); replace ks := Lib.hid (ks.out.keep hb4); clear hb4)
  go_upto_region 6 with fail
  have lt3 := kr.out.lt
  have lt4 := ks.out.lt
  have hbound : w.heap.size + 3 ≤ w4.heap.size := by omega
  have o5 := kr.out
  have o7 := ks.out
  have l1 := kp.out
  have l2 := kx.out
  refine wp_region_rel (by kernel_rfl) [62, 63, 64, 65, 66, 7, 9] ?Fr1 ?hFr1
    (fun L u W => Below (w.heap.size + 3) w4 W ∧ (L 0 = true → u 62 = .agg #[.int .i64 a1, .int .i64 a2]) ∧ (L 1 = true → u 63 = .agg #[.int .i64 x, .int .i64 y]) ∧ (L 2 = true → u 64 = .agg #[.int .i64 a1, .int .i64 a2]) ∧ (L 3 = true → u 65 = .int .i64 n0) ∧ (L 4 = true → u 66 = .agg #[.int .i64 n0, .int .i64 1]) ∧ (L 6 = true → u 7 = .int .i64 0) ∧ (L 8 = true → u 9 = .int .i64 0) ∧ (L 5 = false → Lok W (w.heap.size + 3) 23 #[.int .i64 0, .int .i64 0]) ∧ (L 5 = true → Lok W (w.heap.size + 3) 23 #[.int .i64 a1, .int .i64 a2]) ∧ (L 7 = false → Lok W (w.heap.size + 4) 29 #[.int .i64 0, .int .i64 0]) ∧ (L 7 = true → Lok W (w.heap.size + 4) 29 #[.int .i64 n0, .int .i64 1]) ∧ Lok W (w.heap.size + 1) 23 #[.int .i64 a1, .int .i64 a2] ∧ Lok W (w.heap.size) 23 #[.int .i64 x, .int .i64 y]) (by kernel_rfl) (by kernel_rfl) 9 rfl ?h0r1 ?stepr1 ?finr1
  case hFr1 => intro u; simp only [putAll, Act.put, List.setIfInBounds_toArray, List.set]; exact rfl
  case h0r1 => intro L u hL; exact ⟨(Below.refl _ _).drew, (fun h => by simp [hL] at h), (fun h => by simp [hL] at h), (fun h => by simp [hL] at h), (fun h => by simp [hL] at h), (fun h => by simp [hL] at h), (fun h => by simp [hL] at h), (fun h => by simp [hL] at h), (fun _ => by assumption), (fun h => by simp [hL] at h), (fun _ => by assumption), (fun h => by simp [hL] at h), (by first | assumption | (apply Lok.drew; assumption)), (by first | assumption | (apply Lok.drew; assumption))⟩
  case stepr1 =>
    refine ops_all (ops_cons ?s0r1 (ops_cons ?s1r1 (ops_cons ?s2r1 (ops_cons ?s3r1 (ops_cons ?s4r1 (ops_cons ?s5r1 (ops_cons ?s6r1 (ops_cons ?s7r1 (ops_cons ?s8r1 (ops_nil))))))))))
    case s0r1 =>
      rintro L u W ⟨hB, c0, c1, c2, c3, c4, c6, c8, o5, wn5, o7, wn7, lk1, lk2⟩ hf hd K hK
      dsimp only at hK
      have t0 := lk1.cell (i := 0) rfl
      have t1 := lk1.cell (i := 1) rfl
      clear hd
      go_simp
      refine hK _ _ ?_ (fun h => by cases h)
      intro s hs
      cases hs
      exact ⟨hB, (fun _ => rfl), c1, c2, c3, c4, c6, c8, o5, wn5, o7, wn7, lk1, lk2⟩
    case s1r1 =>
      rintro L u W ⟨hB, c0, c1, c2, c3, c4, c6, c8, o5, wn5, o7, wn7, lk1, lk2⟩ hf hd K hK
      dsimp only at hK
      have t0 := lk2.cell (i := 0) rfl
      have t1 := lk2.cell (i := 1) rfl
      clear hd
      go_simp
      refine hK _ _ ?_ (fun h => by cases h)
      intro s hs
      cases hs
      exact ⟨hB, c0, (fun _ => rfl), c2, c3, c4, c6, c8, o5, wn5, o7, wn7, lk1, lk2⟩
    case s2r1 =>
      rintro L u W ⟨hB, c0, c1, c2, c3, c4, c6, c8, o5, wn5, o7, wn7, lk1, lk2⟩ hf hd K hK
      dsimp only at hK
      have t0 := lk1.cell (i := 0) rfl
      have t1 := lk1.cell (i := 1) rfl
      clear hd
      go_simp
      refine hK _ _ ?_ (fun h => by cases h)
      intro s hs
      cases hs
      exact ⟨hB, c0, c1, (fun _ => rfl), c3, c4, c6, c8, o5, wn5, o7, wn7, lk1, lk2⟩
    case s3r1 =>
      rintro L u W ⟨hB, c0, c1, c2, c3, c4, c6, c8, o5, wn5, o7, wn7, lk1, lk2⟩ hf hd K hK
      dsimp only at hK
      have hd1 : L 1 = true := (by first | (refine hd ⟨1, .data⟩ ?_ rfl; simp; done) | (refine hd ⟨1, .guard⟩ ?_ rfl; simp; done) | (refine hd ⟨1, .phase⟩ ?_ rfl; simp; done) | (refine hd ⟨1, .chain⟩ ?_ rfl; simp; done))
      have hd2 : L 2 = true := (by first | (refine hd ⟨2, .data⟩ ?_ rfl; simp; done) | (refine hd ⟨2, .guard⟩ ?_ rfl; simp; done) | (refine hd ⟨2, .phase⟩ ?_ rfl; simp; done) | (refine hd ⟨2, .chain⟩ ?_ rfl; simp; done))
      have e1 := c1 hd1
      rw [e1] at hK
      have e2 := c2 hd2
      rw [e2] at hK
      clear hd1
      clear hd2
      clear hd
      go_simp
      go_wp2_with (go_at_call 24; ((with_reducible refine (Q.out _).mono ?_); rintro e w5 ⟨rfl, hb⟩))
      refine hK _ _ ?_ (fun h => by cases h)
      intro s hs
      cases hs
      exact ⟨hB.trans (hb.mono (Nat.le_trans hbound hB.size)), c0, c1, c2, (fun _ => rfl), c4, c6, c8, (fun h => (o5 h).keep hb), (fun h => (wn5 h).keep hb), (fun h => (o7 h).keep hb), (fun h => (wn7 h).keep hb), (lk1.keep hb), (lk2.keep hb)⟩
    case s4r1 =>
      rintro L u W ⟨hB, c0, c1, c2, c3, c4, c6, c8, o5, wn5, o7, wn7, lk1, lk2⟩ hf hd K hK
      dsimp only at hK
      have hd3 : L 3 = true := (by first | (refine hd ⟨3, .data⟩ ?_ rfl; simp; done) | (refine hd ⟨3, .guard⟩ ?_ rfl; simp; done) | (refine hd ⟨3, .phase⟩ ?_ rfl; simp; done) | (refine hd ⟨3, .chain⟩ ?_ rfl; simp; done))
      have e3 := c3 hd3
      rw [e3] at hK
      clear hd3
      clear hd
      go_simp
      refine hK _ _ ?_ (fun h => by cases h)
      intro s hs
      cases hs
      exact ⟨hB, c0, c1, c2, c3, (fun _ => rfl), c6, c8, o5, wn5, o7, wn7, lk1, lk2⟩
    case s5r1 =>
      rintro L u W ⟨hB, c0, c1, c2, c3, c4, c6, c8, o5, wn5, o7, wn7, lk1, lk2⟩ hf hd K hK
      dsimp only at hK
      have hd0 : L 0 = true := (by first | (refine hd ⟨0, .data⟩ ?_ rfl; simp; done) | (refine hd ⟨0, .phase⟩ ?_ rfl; simp; done))
      have k3 := o5 hf
      have e0 := c0 hd0
      rw [e0] at hK
      have t0 := k3.cell (i := 0) rfl
      have f0 := k3.frozen 0
      have t1 := k3.cell (i := 1) rfl
      have f1 := k3.frozen 1
      clear hd
      have hd0' := Lib.hid hd0
      clear hd0
      go_simp
      have hd0 := hd0'.out
      have hlok := (k3.set (i := 0) (v := .int .i64 a1)).set (i := 1) (v := .int .i64 a2)
      refine hK undef _ (fun s h => by cases h) (fun _ => ?_)
      exact ⟨(hB.setCell (by first | exact Nat.le_refl _ | assumption | (show _ ≤ _; omega) | (show ((w.heap.size + 3)) ≤ (w.heap.size + 3); omega)) _).setCell (by first | exact Nat.le_refl _ | assumption | (show _ ≤ _; omega) | (show ((w.heap.size + 3)) ≤ (w.heap.size + 3); omega)) _, (fun _ => rfl), c1, c2, c3, c4, c6, c8, (fun h => by cases h), (fun _ => hlok), (fun h => (((o7 h).far (by first | assumption | omega)).far (by first | assumption | omega))), (fun h => (((wn7 h).far (by first | assumption | omega)).far (by first | assumption | omega))), ((lk1.far (by first | assumption | omega)).far (by first | assumption | omega)), ((lk2.far (by first | assumption | omega)).far (by first | assumption | omega))⟩
    case s6r1 =>
      rintro L u W ⟨hB, c0, c1, c2, c3, c4, c6, c8, o5, wn5, o7, wn7, lk1, lk2⟩ hf hd K hK
      dsimp only at hK
      clear hd
      go_simp
      refine hK _ _ ?_ (fun h => by cases h)
      intro s hs
      cases hs
      exact ⟨hB, c0, c1, c2, c3, c4, (fun _ => rfl), c8, o5, wn5, o7, wn7, lk1, lk2⟩
    case s7r1 =>
      rintro L u W ⟨hB, c0, c1, c2, c3, c4, c6, c8, o5, wn5, o7, wn7, lk1, lk2⟩ hf hd K hK
      dsimp only at hK
      have hd4 : L 4 = true := (by first | (refine hd ⟨4, .data⟩ ?_ rfl; simp; done) | (refine hd ⟨4, .phase⟩ ?_ rfl; simp; done))
      have k3 := o7 hf
      have e4 := c4 hd4
      rw [e4] at hK
      have t0 := k3.cell (i := 0) rfl
      have f0 := k3.frozen 0
      have t1 := k3.cell (i := 1) rfl
      have f1 := k3.frozen 1
      clear hd
      have hd4' := Lib.hid hd4
      clear hd4
      go_simp
      have hd4 := hd4'.out
      have hlok := (k3.set (i := 0) (v := .int .i64 n0)).set (i := 1) (v := .int .i64 1)
      refine hK undef _ (fun s h => by cases h) (fun _ => ?_)
      exact ⟨(hB.setCell (by first | exact Nat.le_refl _ | assumption | (show _ ≤ _; omega) | (show ((w.heap.size + 3)) ≤ (w.heap.size + 4); omega)) _).setCell (by first | exact Nat.le_refl _ | assumption | (show _ ≤ _; omega) | (show ((w.heap.size + 3)) ≤ (w.heap.size + 4); omega)) _, c0, c1, c2, c3, (fun _ => rfl), c6, c8, (fun h => (((o5 h).far (by first | assumption | omega)).far (by first | assumption | omega))), (fun h => (((wn5 h).far (by first | assumption | omega)).far (by first | assumption | omega))), (fun h => by cases h), (fun _ => hlok), ((lk1.far (by first | assumption | omega)).far (by first | assumption | omega)), ((lk2.far (by first | assumption | omega)).far (by first | assumption | omega))⟩
    case s8r1 =>
      rintro L u W ⟨hB, c0, c1, c2, c3, c4, c6, c8, o5, wn5, o7, wn7, lk1, lk2⟩ hf hd K hK
      dsimp only at hK
      clear hd
      go_simp
      refine hK _ _ ?_ (fun h => by cases h)
      intro s hs
      cases hs
      exact ⟨hB, c0, c1, c2, c3, c4, c6, (fun _ => rfl), o5, wn5, o7, wn7, lk1, lk2⟩
  case finr1 =>
    rintro L u W hL ⟨hB, c0, c1, c2, c3, c4, c6, c8, o5, wn5, o7, wn7, lk1, lk2⟩
    have e0 := c0 (hL 0 (by decide))
    have e1 := c1 (hL 1 (by decide))
    have e2 := c2 (hL 2 (by decide))
    have e3 := c3 (hL 3 (by decide))
    have e4 := c4 (hL 4 (by decide))
    have e6 := c6 (hL 6 (by decide))
    have e8 := c8 (hL 8 (by decide))
    have hlok5 := wn5 (hL 5 (by decide))
    have hlok7 := wn7 (hL 7 (by decide))
    clear hL c0 c1 c2 c3 c4 c6 c8 o5 wn5 o7 wn7
    try simp only [e0, e1, e2, e3, e4, e6, e8]
    clear e0 e1 e2 e3 e4 e6 e8
    have r0 := hlok5.cell (i := 0) rfl
    have r1 := hlok5.cell (i := 1) rfl
    have s0 := hlok7.cell (i := 0) rfl
    have s1 := hlok7.cell (i := 1) rfl
    go_wp2_with fail
    exact bodyPost_ret (v := .tuple #[.agg #[.int .i64 a1, .int .i64 a2], .int .i64 0, .agg #[.int .i64 n0, .int .i64 1], .int .i64 0]) (by simp [results, Try.results9, go_sem, r0, r1, s0, s1]) rfl ⟨rfl, HB.out.trans (hB.mono (by omega))⟩
set_option maxRecDepth 100000 in
set_option maxHeartbeats 4000000 in
theorem redge_1 (x y a1 a2 b1 b2 : Int) (hm : 0 < em x y a1 a2 b1 b2) (hn : sq a1 a2 b1 b2 ≤ em x y a1 a2 b1 b2) (hp : s2 x y = true) (ha : s2 a1 a2 = true) (hb : s2 b1 b2 = true) (w : World) :
    Calls Try.prog 9 #[.agg #[.int .i64 x, .int .i64 y], .agg #[.int .i64 a1, .int .i64 a2], .agg #[.int .i64 b1, .int .i64 b2]] w fun e' w' => e' = .returned (.tuple #[.agg #[.int .i64 b1, .int .i64 b2], .int .i64 1, .agg #[.int .i64 (sq x y b1 b2), .int .i64 1], .int .i64 0]) ∧ Below w.heap.size w w' := by
  have HB := Lib.hid (Below.refl w.heap.size w)
  have S1 := Lib.hid (fun W => rsmall2_any x y W)
  have S2 := Lib.hid (fun W => rsmall2_any a1 a2 W)
  have S3 := Lib.hid (fun W => rsmall2_any b1 b2 W)
  rw [hp] at S1
  rw [ha] at S2
  rw [hb] at S3
  have Q1 := Lib.hid (fun W => rsquare_any a1 a2 b1 b2 ha hb W)
  obtain ⟨hp1, hp2⟩ := s2_iff.1 hp
  obtain ⟨ha1, ha2⟩ := s2_iff.1 ha
  obtain ⟨hb1, hb2⟩ := s2_iff.1 hb
  have bn := sq_bd ha hb
  have bm := em_bd hp ha hb
  have br := ar_sq_bd ha hb hp
  unfold SM at hp1 hp2 ha1 ha2 hb1 hb2
  have w1' : IntKind.i64.wrap (x - a1) = x - a1 := IntWalk.i64_in _ (by omega)
  have w2' : IntKind.i64.wrap (y - a2) = y - a2 := IntWalk.i64_in _ (by omega)
  have w3' : IntKind.i64.wrap (b1 - a1) = b1 - a1 := IntWalk.i64_in _ (by omega)
  have w4' : IntKind.i64.wrap (b2 - a2) = b2 - a2 := IntWalk.i64_in _ (by omega)
  have p1 := prod_bd (a := x - a1) (b := b1 - a1) (by omega) (by omega)
  have p2 := prod_bd (a := y - a2) (b := b2 - a2) (by omega) (by omega)
  have w5' : IntKind.i64.wrap ((x - a1) * (b1 - a1)) = (x - a1) * (b1 - a1) := IntWalk.i64_in _ (by omega)
  have w6' : IntKind.i64.wrap ((y - a2) * (b2 - a2)) = (y - a2) * (b2 - a2) := IntWalk.i64_in _ (by omega)
  have w7' : IntKind.i64.wrap ((x - a1) * (b1 - a1) + (y - a2) * (b2 - a2)) = em x y a1 a2 b1 b2 := IntWalk.i64_in _ (by omega)
  have Q := Lib.hid (fun W => rsquare_any x y b1 b2 hp hb W)
  have n0' := em_pos hm
  generalize sq x y b1 b2 = n0 at *
  generalize em x y a1 a2 b1 b2 = m at *
  generalize sq a1 a2 b1 b2 = n at *
  have nm : ¬ m ≤ 0 := by omega
  have nn : (n == 0) = false := by rw [beq_eq_false_iff_ne]; omega
  clear hp ha hb hp1 hp2 ha1 ha2 hb1 hb2 bn bm br p1 p2 hm n0'
  go_enter Try.func9, Try.ntmps9
  go_upto_region 1 with fail
  have hbx := below_new1 w (.cells #[.int .i64 x, .int .i64 y] 23)
  have zx : (w.alloc (.cells #[.int .i64 x, .int .i64 y] 23)).heap.size = w.heap.size + 1 := by simp
  have HB := Lib.hid hbx
  have kx := Lib.hid (Lok.new w 23 #[.int .i64 x, .int .i64 y])
  clear hbx
  generalize w.alloc (.cells #[.int .i64 x, .int .i64 y] 23) = Vx at *
  have hbp := below_new1 Vx (.cells #[.int .i64 a1, .int .i64 a2] 23)
  replace kx := Lib.hid (kx.out.keep hbp)
  have zp : (Vx.alloc (.cells #[.int .i64 a1, .int .i64 a2] 23)).heap.size = Vx.heap.size + 1 := by simp
  replace HB := Lib.hid (HB.out.trans (hbp.mono HB.out.size))
  have kp := Lib.hid (Lok.new Vx 23 #[.int .i64 a1, .int .i64 a2])
  clear hbp
  generalize Vx.alloc (.cells #[.int .i64 a1, .int .i64 a2] 23) = Vp at *
  rw [zx] at kp zp
  have hbq := below_new1 Vp (.cells #[.int .i64 b1, .int .i64 b2] 23)
  replace kx := Lib.hid (kx.out.keep hbq)
  replace kp := Lib.hid (kp.out.keep hbq)
  have zq : (Vp.alloc (.cells #[.int .i64 b1, .int .i64 b2] 23)).heap.size = Vp.heap.size + 1 := by simp
  replace HB := Lib.hid (HB.out.trans (hbq.mono HB.out.size))
  have kq := Lib.hid (Lok.new Vp 23 #[.int .i64 b1, .int .i64 b2])
  clear hbq
  generalize Vp.alloc (.cells #[.int .i64 b1, .int .i64 b2] 23) = Vq at *
  rw [zp] at kq zq
  have hbr := below_new1 Vq (.cells #[.int .i64 0, .int .i64 0] 23)
  replace kx := Lib.hid (kx.out.keep hbr)
  replace kp := Lib.hid (kp.out.keep hbr)
  replace kq := Lib.hid (kq.out.keep hbr)
  have zr : (Vq.alloc (.cells #[.int .i64 0, .int .i64 0] 23)).heap.size = Vq.heap.size + 1 := by simp
  replace HB := Lib.hid (HB.out.trans (hbr.mono HB.out.size))
  have kr := Lib.hid (Lok.new Vq 23 #[.int .i64 0, .int .i64 0])
  clear hbr
  generalize Vq.alloc (.cells #[.int .i64 0, .int .i64 0] 23) = Vr at *
  rw [zq] at kr zr
  have hbs := below_new1 Vr (.cells #[.int .i64 0, .int .i64 0] 29)
  replace kx := Lib.hid (kx.out.keep hbs)
  replace kp := Lib.hid (kp.out.keep hbs)
  replace kq := Lib.hid (kq.out.keep hbs)
  replace kr := Lib.hid (kr.out.keep hbs)
  have zs : (Vr.alloc (.cells #[.int .i64 0, .int .i64 0] 29)).heap.size = Vr.heap.size + 1 := by simp
  replace HB := Lib.hid (HB.out.trans (hbs.mono HB.out.size))
  have ks := Lib.hid (Lok.new Vr 29 #[.int .i64 0, .int .i64 0])
  clear hbs
  generalize Vr.alloc (.cells #[.int .i64 0, .int .i64 0] 29) = Vs at *
  rw [zr] at ks
  clear zx zp zq zr zs
  have x0 := kx.out.cell (i := 0) rfl
  have x1 := kx.out.cell (i := 1) rfl
  go_wp2_with fail
  clear x0 x1
  (((with_reducible refine (S1.out _).mono ?_); rintro e w1 ⟨rfl, hb1⟩); replace HB := Lib.hid (HB.out.trans (hb1.mono HB.out.size)); replace kx := Lib.hid (kx.out.keep hb1); replace kp := Lib.hid (kp.out.keep hb1); replace kq := Lib.hid (kq.out.keep hb1); replace kr := Lib.hid (kr.out.keep hb1); replace ks := Lib.hid (ks.out.keep hb1); clear hb1)
  have p0 := kp.out.cell (i := 0) rfl
  have p1 := kp.out.cell (i := 1) rfl
  go_wp2_with fail
  clear p0 p1
  (((with_reducible refine (S2.out _).mono ?_); rintro e w2 ⟨rfl, hb2⟩); replace HB := Lib.hid (HB.out.trans (hb2.mono HB.out.size)); replace kx := Lib.hid (kx.out.keep hb2); replace kp := Lib.hid (kp.out.keep hb2); replace kq := Lib.hid (kq.out.keep hb2); replace kr := Lib.hid (kr.out.keep hb2); replace ks := Lib.hid (ks.out.keep hb2); clear hb2)
  have q0 := kq.out.cell (i := 0) rfl
  have q1 := kq.out.cell (i := 1) rfl
  go_wp2_with fail
  clear q0 q1
  (((with_reducible refine (S3.out _).mono ?_); rintro e w3 ⟨rfl, hb3⟩); replace HB := Lib.hid (HB.out.trans (hb3.mono HB.out.size)); replace kx := Lib.hid (kx.out.keep hb3); replace kp := Lib.hid (kp.out.keep hb3); replace kq := Lib.hid (kq.out.keep hb3); replace kr := Lib.hid (kr.out.keep hb3); replace ks := Lib.hid (ks.out.keep hb3); clear hb3)
  clear S1 S2 S3
  have x0 := kx.out.cell (i := 0) rfl
  have x1 := kx.out.cell (i := 1) rfl
  have p0 := kp.out.cell (i := 0) rfl
  have p1 := kp.out.cell (i := 1) rfl
  have q0 := kq.out.cell (i := 0) rfl
  have q1 := kq.out.cell (i := 1) rfl
  go_wp2_with fail
  clear x0 x1 p0 p1 q0 q1
  (((with_reducible refine (Q1.out _).mono ?_); rintro e w4 ⟨rfl, hb4⟩); replace HB := Lib.hid (HB.out.trans (hb4.mono HB.out.size)); replace kx := Lib.hid (kx.out.keep hb4); replace kp := Lib.hid (kp.out.keep hb4); replace kq := Lib.hid (kq.out.keep hb4); replace kr := Lib.hid (kr.out.keep hb4); replace ks := Lib.hid (ks.out.keep hb4); clear hb4)
  go_upto_region 8 with fail
  have lt3 := kr.out.lt
  have lt4 := ks.out.lt
  have hbound : w.heap.size + 3 ≤ w4.heap.size := by omega
  have o5 := kr.out
  have o7 := ks.out
  have l1 := kq.out
  have l2 := kx.out
  refine wp_region_rel (by kernel_rfl) [70, 71, 72, 73, 74, 7, 9] ?Fr2 ?hFr2
    (fun L u W => Below (w.heap.size + 3) w4 W ∧ (L 0 = true → u 70 = .agg #[.int .i64 b1, .int .i64 b2]) ∧ (L 1 = true → u 71 = .agg #[.int .i64 x, .int .i64 y]) ∧ (L 2 = true → u 72 = .agg #[.int .i64 b1, .int .i64 b2]) ∧ (L 3 = true → u 73 = .int .i64 n0) ∧ (L 4 = true → u 74 = .agg #[.int .i64 n0, .int .i64 1]) ∧ (L 6 = true → u 7 = .int .i64 1) ∧ (L 8 = true → u 9 = .int .i64 0) ∧ (L 5 = false → Lok W (w.heap.size + 3) 23 #[.int .i64 0, .int .i64 0]) ∧ (L 5 = true → Lok W (w.heap.size + 3) 23 #[.int .i64 b1, .int .i64 b2]) ∧ (L 7 = false → Lok W (w.heap.size + 4) 29 #[.int .i64 0, .int .i64 0]) ∧ (L 7 = true → Lok W (w.heap.size + 4) 29 #[.int .i64 n0, .int .i64 1]) ∧ Lok W (w.heap.size + 2) 23 #[.int .i64 b1, .int .i64 b2] ∧ Lok W (w.heap.size) 23 #[.int .i64 x, .int .i64 y]) (by kernel_rfl) (by kernel_rfl) 9 rfl ?h0r2 ?stepr2 ?finr2
  case hFr2 => intro u; simp only [putAll, Act.put, List.setIfInBounds_toArray, List.set]; exact rfl
  case h0r2 => intro L u hL; exact ⟨(Below.refl _ _).drew, (fun h => by simp [hL] at h), (fun h => by simp [hL] at h), (fun h => by simp [hL] at h), (fun h => by simp [hL] at h), (fun h => by simp [hL] at h), (fun h => by simp [hL] at h), (fun h => by simp [hL] at h), (fun _ => by assumption), (fun h => by simp [hL] at h), (fun _ => by assumption), (fun h => by simp [hL] at h), (by first | assumption | (apply Lok.drew; assumption)), (by first | assumption | (apply Lok.drew; assumption))⟩
  case stepr2 =>
    refine ops_all (ops_cons ?s0r2 (ops_cons ?s1r2 (ops_cons ?s2r2 (ops_cons ?s3r2 (ops_cons ?s4r2 (ops_cons ?s5r2 (ops_cons ?s6r2 (ops_cons ?s7r2 (ops_cons ?s8r2 (ops_nil))))))))))
    case s0r2 =>
      rintro L u W ⟨hB, c0, c1, c2, c3, c4, c6, c8, o5, wn5, o7, wn7, lk1, lk2⟩ hf hd K hK
      dsimp only at hK
      have t0 := lk1.cell (i := 0) rfl
      have t1 := lk1.cell (i := 1) rfl
      clear hd
      go_simp
      refine hK _ _ ?_ (fun h => by cases h)
      intro s hs
      cases hs
      exact ⟨hB, (fun _ => rfl), c1, c2, c3, c4, c6, c8, o5, wn5, o7, wn7, lk1, lk2⟩
    case s1r2 =>
      rintro L u W ⟨hB, c0, c1, c2, c3, c4, c6, c8, o5, wn5, o7, wn7, lk1, lk2⟩ hf hd K hK
      dsimp only at hK
      have t0 := lk2.cell (i := 0) rfl
      have t1 := lk2.cell (i := 1) rfl
      clear hd
      go_simp
      refine hK _ _ ?_ (fun h => by cases h)
      intro s hs
      cases hs
      exact ⟨hB, c0, (fun _ => rfl), c2, c3, c4, c6, c8, o5, wn5, o7, wn7, lk1, lk2⟩
    case s2r2 =>
      rintro L u W ⟨hB, c0, c1, c2, c3, c4, c6, c8, o5, wn5, o7, wn7, lk1, lk2⟩ hf hd K hK
      dsimp only at hK
      have t0 := lk1.cell (i := 0) rfl
      have t1 := lk1.cell (i := 1) rfl
      clear hd
      go_simp
      refine hK _ _ ?_ (fun h => by cases h)
      intro s hs
      cases hs
      exact ⟨hB, c0, c1, (fun _ => rfl), c3, c4, c6, c8, o5, wn5, o7, wn7, lk1, lk2⟩
    case s3r2 =>
      rintro L u W ⟨hB, c0, c1, c2, c3, c4, c6, c8, o5, wn5, o7, wn7, lk1, lk2⟩ hf hd K hK
      dsimp only at hK
      have hd1 : L 1 = true := (by first | (refine hd ⟨1, .data⟩ ?_ rfl; simp; done) | (refine hd ⟨1, .guard⟩ ?_ rfl; simp; done) | (refine hd ⟨1, .phase⟩ ?_ rfl; simp; done) | (refine hd ⟨1, .chain⟩ ?_ rfl; simp; done))
      have hd2 : L 2 = true := (by first | (refine hd ⟨2, .data⟩ ?_ rfl; simp; done) | (refine hd ⟨2, .guard⟩ ?_ rfl; simp; done) | (refine hd ⟨2, .phase⟩ ?_ rfl; simp; done) | (refine hd ⟨2, .chain⟩ ?_ rfl; simp; done))
      have e1 := c1 hd1
      rw [e1] at hK
      have e2 := c2 hd2
      rw [e2] at hK
      clear hd1
      clear hd2
      clear hd
      go_simp
      go_wp2_with (go_at_call 24; ((with_reducible refine (Q.out _).mono ?_); rintro e w5 ⟨rfl, hb⟩))
      refine hK _ _ ?_ (fun h => by cases h)
      intro s hs
      cases hs
      exact ⟨hB.trans (hb.mono (Nat.le_trans hbound hB.size)), c0, c1, c2, (fun _ => rfl), c4, c6, c8, (fun h => (o5 h).keep hb), (fun h => (wn5 h).keep hb), (fun h => (o7 h).keep hb), (fun h => (wn7 h).keep hb), (lk1.keep hb), (lk2.keep hb)⟩
    case s4r2 =>
      rintro L u W ⟨hB, c0, c1, c2, c3, c4, c6, c8, o5, wn5, o7, wn7, lk1, lk2⟩ hf hd K hK
      dsimp only at hK
      have hd3 : L 3 = true := (by first | (refine hd ⟨3, .data⟩ ?_ rfl; simp; done) | (refine hd ⟨3, .guard⟩ ?_ rfl; simp; done) | (refine hd ⟨3, .phase⟩ ?_ rfl; simp; done) | (refine hd ⟨3, .chain⟩ ?_ rfl; simp; done))
      have e3 := c3 hd3
      rw [e3] at hK
      clear hd3
      clear hd
      go_simp
      refine hK _ _ ?_ (fun h => by cases h)
      intro s hs
      cases hs
      exact ⟨hB, c0, c1, c2, c3, (fun _ => rfl), c6, c8, o5, wn5, o7, wn7, lk1, lk2⟩
    case s5r2 =>
      rintro L u W ⟨hB, c0, c1, c2, c3, c4, c6, c8, o5, wn5, o7, wn7, lk1, lk2⟩ hf hd K hK
      dsimp only at hK
      have hd0 : L 0 = true := (by first | (refine hd ⟨0, .data⟩ ?_ rfl; simp; done) | (refine hd ⟨0, .phase⟩ ?_ rfl; simp; done))
      have k3 := o5 hf
      have e0 := c0 hd0
      rw [e0] at hK
      have t0 := k3.cell (i := 0) rfl
      have f0 := k3.frozen 0
      have t1 := k3.cell (i := 1) rfl
      have f1 := k3.frozen 1
      clear hd
      have hd0' := Lib.hid hd0
      clear hd0
      go_simp
      have hd0 := hd0'.out
      have hlok := (k3.set (i := 0) (v := .int .i64 b1)).set (i := 1) (v := .int .i64 b2)
      refine hK undef _ (fun s h => by cases h) (fun _ => ?_)
      exact ⟨(hB.setCell (by first | exact Nat.le_refl _ | assumption | (show _ ≤ _; omega) | (show ((w.heap.size + 3)) ≤ (w.heap.size + 3); omega)) _).setCell (by first | exact Nat.le_refl _ | assumption | (show _ ≤ _; omega) | (show ((w.heap.size + 3)) ≤ (w.heap.size + 3); omega)) _, (fun _ => rfl), c1, c2, c3, c4, c6, c8, (fun h => by cases h), (fun _ => hlok), (fun h => (((o7 h).far (by first | assumption | omega)).far (by first | assumption | omega))), (fun h => (((wn7 h).far (by first | assumption | omega)).far (by first | assumption | omega))), ((lk1.far (by first | assumption | omega)).far (by first | assumption | omega)), ((lk2.far (by first | assumption | omega)).far (by first | assumption | omega))⟩
    case s6r2 =>
      rintro L u W ⟨hB, c0, c1, c2, c3, c4, c6, c8, o5, wn5, o7, wn7, lk1, lk2⟩ hf hd K hK
      dsimp only at hK
      clear hd
      go_simp
      refine hK _ _ ?_ (fun h => by cases h)
      intro s hs
      cases hs
      exact ⟨hB, c0, c1, c2, c3, c4, (fun _ => rfl), c8, o5, wn5, o7, wn7, lk1, lk2⟩
    case s7r2 =>
      rintro L u W ⟨hB, c0, c1, c2, c3, c4, c6, c8, o5, wn5, o7, wn7, lk1, lk2⟩ hf hd K hK
      dsimp only at hK
      have hd4 : L 4 = true := (by first | (refine hd ⟨4, .data⟩ ?_ rfl; simp; done) | (refine hd ⟨4, .phase⟩ ?_ rfl; simp; done))
      have k3 := o7 hf
      have e4 := c4 hd4
      rw [e4] at hK
      have t0 := k3.cell (i := 0) rfl
      have f0 := k3.frozen 0
      have t1 := k3.cell (i := 1) rfl
      have f1 := k3.frozen 1
      clear hd
      have hd4' := Lib.hid hd4
      clear hd4
      go_simp
      have hd4 := hd4'.out
      have hlok := (k3.set (i := 0) (v := .int .i64 n0)).set (i := 1) (v := .int .i64 1)
      refine hK undef _ (fun s h => by cases h) (fun _ => ?_)
      exact ⟨(hB.setCell (by first | exact Nat.le_refl _ | assumption | (show _ ≤ _; omega) | (show ((w.heap.size + 3)) ≤ (w.heap.size + 4); omega)) _).setCell (by first | exact Nat.le_refl _ | assumption | (show _ ≤ _; omega) | (show ((w.heap.size + 3)) ≤ (w.heap.size + 4); omega)) _, c0, c1, c2, c3, (fun _ => rfl), c6, c8, (fun h => (((o5 h).far (by first | assumption | omega)).far (by first | assumption | omega))), (fun h => (((wn5 h).far (by first | assumption | omega)).far (by first | assumption | omega))), (fun h => by cases h), (fun _ => hlok), ((lk1.far (by first | assumption | omega)).far (by first | assumption | omega)), ((lk2.far (by first | assumption | omega)).far (by first | assumption | omega))⟩
    case s8r2 =>
      rintro L u W ⟨hB, c0, c1, c2, c3, c4, c6, c8, o5, wn5, o7, wn7, lk1, lk2⟩ hf hd K hK
      dsimp only at hK
      clear hd
      go_simp
      refine hK _ _ ?_ (fun h => by cases h)
      intro s hs
      cases hs
      exact ⟨hB, c0, c1, c2, c3, c4, c6, (fun _ => rfl), o5, wn5, o7, wn7, lk1, lk2⟩
  case finr2 =>
    rintro L u W hL ⟨hB, c0, c1, c2, c3, c4, c6, c8, o5, wn5, o7, wn7, lk1, lk2⟩
    have e0 := c0 (hL 0 (by decide))
    have e1 := c1 (hL 1 (by decide))
    have e2 := c2 (hL 2 (by decide))
    have e3 := c3 (hL 3 (by decide))
    have e4 := c4 (hL 4 (by decide))
    have e6 := c6 (hL 6 (by decide))
    have e8 := c8 (hL 8 (by decide))
    have hlok5 := wn5 (hL 5 (by decide))
    have hlok7 := wn7 (hL 7 (by decide))
    clear hL c0 c1 c2 c3 c4 c6 c8 o5 wn5 o7 wn7
    try simp only [e0, e1, e2, e3, e4, e6, e8]
    clear e0 e1 e2 e3 e4 e6 e8
    have r0 := hlok5.cell (i := 0) rfl
    have r1 := hlok5.cell (i := 1) rfl
    have s0 := hlok7.cell (i := 0) rfl
    have s1 := hlok7.cell (i := 1) rfl
    go_wp2_with fail
    exact bodyPost_ret (v := .tuple #[.agg #[.int .i64 b1, .int .i64 b2], .int .i64 1, .agg #[.int .i64 n0, .int .i64 1], .int .i64 0]) (by simp [results, Try.results9, go_sem, r0, r1, s0, s1]) rfl ⟨rfl, HB.out.trans (hB.mono (by omega))⟩
set_option maxRecDepth 100000 in
set_option maxHeartbeats 4000000 in
theorem redge_2 (x y a1 a2 b1 b2 : Int) (hm : 0 < em x y a1 a2 b1 b2) (hn : em x y a1 a2 b1 b2 < sq a1 a2 b1 b2) (hp : s2 x y = true) (ha : s2 a1 a2 = true) (hb : s2 b1 b2 = true) (w : World) :
    Calls Try.prog 9 #[.agg #[.int .i64 x, .int .i64 y], .agg #[.int .i64 a1, .int .i64 a2], .agg #[.int .i64 b1, .int .i64 b2]] w fun e' w' => e' = .returned (.tuple #[.agg #[.int .i64 (a1 + (b1 - a1) * em x y a1 a2 b1 b2 / sq a1 a2 b1 b2), .int .i64 (a2 + (b2 - a2) * em x y a1 a2 b1 b2 / sq a1 a2 b1 b2)], .int .i64 2, .agg #[.int .i64 (ar a1 a2 b1 b2 x y * ar a1 a2 b1 b2 x y), .int .i64 (sq a1 a2 b1 b2)], .int .i64 0]) ∧ Below w.heap.size w w' := by
  have HB := Lib.hid (Below.refl w.heap.size w)
  have S1 := Lib.hid (fun W => rsmall2_any x y W)
  have S2 := Lib.hid (fun W => rsmall2_any a1 a2 W)
  have S3 := Lib.hid (fun W => rsmall2_any b1 b2 W)
  rw [hp] at S1
  rw [ha] at S2
  rw [hb] at S3
  have Q1 := Lib.hid (fun W => rsquare_any a1 a2 b1 b2 ha hb W)
  obtain ⟨hp1, hp2⟩ := s2_iff.1 hp
  obtain ⟨ha1, ha2⟩ := s2_iff.1 ha
  obtain ⟨hb1, hb2⟩ := s2_iff.1 hb
  have bn := sq_bd ha hb
  have bm := em_bd hp ha hb
  have br := ar_sq_bd ha hb hp
  unfold SM at hp1 hp2 ha1 ha2 hb1 hb2
  have w1' : IntKind.i64.wrap (x - a1) = x - a1 := IntWalk.i64_in _ (by omega)
  have w2' : IntKind.i64.wrap (y - a2) = y - a2 := IntWalk.i64_in _ (by omega)
  have w3' : IntKind.i64.wrap (b1 - a1) = b1 - a1 := IntWalk.i64_in _ (by omega)
  have w4' : IntKind.i64.wrap (b2 - a2) = b2 - a2 := IntWalk.i64_in _ (by omega)
  have p1 := prod_bd (a := x - a1) (b := b1 - a1) (by omega) (by omega)
  have p2 := prod_bd (a := y - a2) (b := b2 - a2) (by omega) (by omega)
  have w5' : IntKind.i64.wrap ((x - a1) * (b1 - a1)) = (x - a1) * (b1 - a1) := IntWalk.i64_in _ (by omega)
  have w6' : IntKind.i64.wrap ((y - a2) * (b2 - a2)) = (y - a2) * (b2 - a2) := IntWalk.i64_in _ (by omega)
  have w7' : IntKind.i64.wrap ((x - a1) * (b1 - a1) + (y - a2) * (b2 - a2)) = em x y a1 a2 b1 b2 := IntWalk.i64_in _ (by omega)
  have AR := Lib.hid (fun W => rarea_any a1 a2 b1 b2 x y true (by rw [ha, hb, hp]; rfl) W)
  rw [vF_yes, show rE true = 0 from rfl] at AR
  generalize ar a1 a2 b1 b2 x y = r at *
  generalize em x y a1 a2 b1 b2 = m at *
  generalize sq a1 a2 b1 b2 = n at *
  have f1 := abs_prod (a := b1 - a1) (b := m) (m := 8192) (n := 134217728) (by omega) (by omega)
  have f2 := abs_prod (a := b2 - a2) (b := m) (m := 8192) (n := 134217728) (by omega) (by omega)
  have f3 := abs_prod (a := a1) (b := n) (m := 4096) (n := 134217728) (by omega) (by omega)
  have f4 := abs_prod (a := a2) (b := n) (m := 4096) (n := 134217728) (by omega) (by omega)
  have G1 := Lib.hid (fun W => rdown_any (a1 * n + (b1 - a1) * m) n (by omega) (by unfold In64; omega) (by unfold In64; omega) W)
  have G2 := Lib.hid (fun W => rdown_any (a2 * n + (b2 - a2) * m) n (by omega) (by unfold In64; omega) (by unfold In64; omega) W)
  rw [part_div (show 0 < n by omega)] at G1 G2
  have e1 : IntKind.i64.wrap (a1 * n) = a1 * n := IntWalk.i64_in _ (by omega)
  have e2 : IntKind.i64.wrap (a2 * n) = a2 * n := IntWalk.i64_in _ (by omega)
  have e3 : IntKind.i64.wrap ((b1 - a1) * m) = (b1 - a1) * m := IntWalk.i64_in _ (by omega)
  have e4 : IntKind.i64.wrap ((b2 - a2) * m) = (b2 - a2) * m := IntWalk.i64_in _ (by omega)
  have e5 : IntKind.i64.wrap (r * r) = r * r := IntWalk.i64_in _ (by omega)
  have e6 : IntKind.i64.wrap (a1 * n + (b1 - a1) * m) = a1 * n + (b1 - a1) * m := IntWalk.i64_in _ (by omega)
  have e7 : IntKind.i64.wrap (a2 * n + (b2 - a2) * m) = a2 * n + (b2 - a2) * m := IntWalk.i64_in _ (by omega)
  generalize a1 + (b1 - a1) * m / n = q1 at *
  generalize a2 + (b2 - a2) * m / n = q2 at *
  have n1 : ¬ m ≤ 0 := by omega
  have n2 : ¬ n ≤ m := by omega
  have n3 : (n == 0) = false := by rw [beq_eq_false_iff_ne]; omega
  clear hp ha hb hp1 hp2 ha1 ha2 hb1 hb2 bn bm br p1 p2 f1 f2 f3 f4 hm hn
  go_enter Try.func9, Try.ntmps9
  go_upto_region 1 with fail
  have hbx := below_new1 w (.cells #[.int .i64 x, .int .i64 y] 23)
  have zx : (w.alloc (.cells #[.int .i64 x, .int .i64 y] 23)).heap.size = w.heap.size + 1 := by simp
  have HB := Lib.hid hbx
  have kx := Lib.hid (Lok.new w 23 #[.int .i64 x, .int .i64 y])
  clear hbx
  generalize w.alloc (.cells #[.int .i64 x, .int .i64 y] 23) = Vx at *
  have hbp := below_new1 Vx (.cells #[.int .i64 a1, .int .i64 a2] 23)
  replace kx := Lib.hid (kx.out.keep hbp)
  have zp : (Vx.alloc (.cells #[.int .i64 a1, .int .i64 a2] 23)).heap.size = Vx.heap.size + 1 := by simp
  replace HB := Lib.hid (HB.out.trans (hbp.mono HB.out.size))
  have kp := Lib.hid (Lok.new Vx 23 #[.int .i64 a1, .int .i64 a2])
  clear hbp
  generalize Vx.alloc (.cells #[.int .i64 a1, .int .i64 a2] 23) = Vp at *
  rw [zx] at kp zp
  have hbq := below_new1 Vp (.cells #[.int .i64 b1, .int .i64 b2] 23)
  replace kx := Lib.hid (kx.out.keep hbq)
  replace kp := Lib.hid (kp.out.keep hbq)
  have zq : (Vp.alloc (.cells #[.int .i64 b1, .int .i64 b2] 23)).heap.size = Vp.heap.size + 1 := by simp
  replace HB := Lib.hid (HB.out.trans (hbq.mono HB.out.size))
  have kq := Lib.hid (Lok.new Vp 23 #[.int .i64 b1, .int .i64 b2])
  clear hbq
  generalize Vp.alloc (.cells #[.int .i64 b1, .int .i64 b2] 23) = Vq at *
  rw [zp] at kq zq
  have hbr := below_new1 Vq (.cells #[.int .i64 0, .int .i64 0] 23)
  replace kx := Lib.hid (kx.out.keep hbr)
  replace kp := Lib.hid (kp.out.keep hbr)
  replace kq := Lib.hid (kq.out.keep hbr)
  have zr : (Vq.alloc (.cells #[.int .i64 0, .int .i64 0] 23)).heap.size = Vq.heap.size + 1 := by simp
  replace HB := Lib.hid (HB.out.trans (hbr.mono HB.out.size))
  have kr := Lib.hid (Lok.new Vq 23 #[.int .i64 0, .int .i64 0])
  clear hbr
  generalize Vq.alloc (.cells #[.int .i64 0, .int .i64 0] 23) = Vr at *
  rw [zq] at kr zr
  have hbs := below_new1 Vr (.cells #[.int .i64 0, .int .i64 0] 29)
  replace kx := Lib.hid (kx.out.keep hbs)
  replace kp := Lib.hid (kp.out.keep hbs)
  replace kq := Lib.hid (kq.out.keep hbs)
  replace kr := Lib.hid (kr.out.keep hbs)
  have zs : (Vr.alloc (.cells #[.int .i64 0, .int .i64 0] 29)).heap.size = Vr.heap.size + 1 := by simp
  replace HB := Lib.hid (HB.out.trans (hbs.mono HB.out.size))
  have ks := Lib.hid (Lok.new Vr 29 #[.int .i64 0, .int .i64 0])
  clear hbs
  generalize Vr.alloc (.cells #[.int .i64 0, .int .i64 0] 29) = Vs at *
  rw [zr] at ks
  clear zx zp zq zr zs
  have x0 := kx.out.cell (i := 0) rfl
  have x1 := kx.out.cell (i := 1) rfl
  go_wp2_with fail
  clear x0 x1
  (((with_reducible refine (S1.out _).mono ?_); rintro e w1 ⟨rfl, hb1⟩); replace HB := Lib.hid (HB.out.trans (hb1.mono HB.out.size)); replace kx := Lib.hid (kx.out.keep hb1); replace kp := Lib.hid (kp.out.keep hb1); replace kq := Lib.hid (kq.out.keep hb1); replace kr := Lib.hid (kr.out.keep hb1); replace ks := Lib.hid (ks.out.keep hb1); clear hb1)
  have p0 := kp.out.cell (i := 0) rfl
  have p1 := kp.out.cell (i := 1) rfl
  go_wp2_with fail
  clear p0 p1
  (((with_reducible refine (S2.out _).mono ?_); rintro e w2 ⟨rfl, hb2⟩); replace HB := Lib.hid (HB.out.trans (hb2.mono HB.out.size)); replace kx := Lib.hid (kx.out.keep hb2); replace kp := Lib.hid (kp.out.keep hb2); replace kq := Lib.hid (kq.out.keep hb2); replace kr := Lib.hid (kr.out.keep hb2); replace ks := Lib.hid (ks.out.keep hb2); clear hb2)
  have q0 := kq.out.cell (i := 0) rfl
  have q1 := kq.out.cell (i := 1) rfl
  go_wp2_with fail
  clear q0 q1
  (((with_reducible refine (S3.out _).mono ?_); rintro e w3 ⟨rfl, hb3⟩); replace HB := Lib.hid (HB.out.trans (hb3.mono HB.out.size)); replace kx := Lib.hid (kx.out.keep hb3); replace kp := Lib.hid (kp.out.keep hb3); replace kq := Lib.hid (kq.out.keep hb3); replace kr := Lib.hid (kr.out.keep hb3); replace ks := Lib.hid (ks.out.keep hb3); clear hb3)
  clear S1 S2 S3
  have x0 := kx.out.cell (i := 0) rfl
  have x1 := kx.out.cell (i := 1) rfl
  have p0 := kp.out.cell (i := 0) rfl
  have p1 := kp.out.cell (i := 1) rfl
  have q0 := kq.out.cell (i := 0) rfl
  have q1 := kq.out.cell (i := 1) rfl
  go_wp2_with fail
  clear x0 x1 p0 p1 q0 q1
  (((with_reducible refine (Q1.out _).mono ?_); rintro e w4 ⟨rfl, hb4⟩); replace HB := Lib.hid (HB.out.trans (hb4.mono HB.out.size)); replace kx := Lib.hid (kx.out.keep hb4); replace kp := Lib.hid (kp.out.keep hb4); replace kq := Lib.hid (kq.out.keep hb4); replace kr := Lib.hid (kr.out.keep hb4); replace ks := Lib.hid (ks.out.keep hb4); clear hb4)
  have x0 := kx.out.cell (i := 0) rfl
  have x1 := kx.out.cell (i := 1) rfl
  have p0 := kp.out.cell (i := 0) rfl
  have p1 := kp.out.cell (i := 1) rfl
  have q0 := kq.out.cell (i := 0) rfl
  have q1 := kq.out.cell (i := 1) rfl
  go_wp2_with fail
  clear x0 x1 p0 p1 q0 q1
  (((with_reducible refine (AR.out _).mono ?_); rintro e w5 ⟨rfl, hb5⟩); replace HB := Lib.hid (HB.out.trans (hb5.mono HB.out.size)); replace kx := Lib.hid (kx.out.keep hb5); replace kp := Lib.hid (kp.out.keep hb5); replace kq := Lib.hid (kq.out.keep hb5); replace kr := Lib.hid (kr.out.keep hb5); replace ks := Lib.hid (ks.out.keep hb5); clear hb5)
  go_upto_region 10 with fail
  have l9 := kr.out.lt
  have l10 := ks.out.lt
  refine wp_region_rel (by kernel_rfl) [82, 83, 84, 85, 86, 87, 88, 89, 90, 91, 92, 93, 94, 95, 96, 97, 98, 99, 100, 101, 102, 103, 104, 105, 106, 107, 108, 109, 110, 14] ?Fr3 ?hFr3
    (fun L u W => Below w5.heap.size w5 W ∧ (L 0 = true → u 82 = .pointer (some ⟨w.heap.size + 1, 0, none⟩)) ∧ (L 1 = true → u 83 = .int .i64 a1) ∧ (L 2 = true → u 84 = .int .i64 n) ∧ (L 3 = true → u 85 = .int .i64 (a1 * n)) ∧ (L 4 = true → u 86 = .pointer (some ⟨w.heap.size + 2, 0, none⟩)) ∧ (L 5 = true → u 87 = .int .i64 b1) ∧ (L 6 = true → u 88 = .pointer (some ⟨w.heap.size + 1, 0, none⟩)) ∧ (L 7 = true → u 89 = .int .i64 a1) ∧ (L 8 = true → u 90 = .int .i64 (b1 - a1)) ∧ (L 9 = true → u 91 = .int .i64 m) ∧ (L 10 = true → u 92 = .int .i64 ((b1 - a1) * m)) ∧ (L 11 = true → u 93 = .int .i64 (a1 * n + (b1 - a1) * m)) ∧ (L 12 = true → u 94 = .int .i64 n) ∧ (L 13 = true → u 95 = .int .i64 q1) ∧ (L 14 = true → u 96 = .pointer (some ⟨w.heap.size + 1, 1, none⟩)) ∧ (L 15 = true → u 97 = .int .i64 a2) ∧ (L 16 = true → u 98 = .int .i64 n) ∧ (L 17 = true → u 99 = .int .i64 (a2 * n)) ∧ (L 18 = true → u 100 = .pointer (some ⟨w.heap.size + 2, 1, none⟩)) ∧ (L 19 = true → u 101 = .int .i64 b2) ∧ (L 20 = true → u 102 = .pointer (some ⟨w.heap.size + 1, 1, none⟩)) ∧ (L 21 = true → u 103 = .int .i64 a2) ∧ (L 22 = true → u 104 = .int .i64 (b2 - a2)) ∧ (L 23 = true → u 105 = .int .i64 m) ∧ (L 24 = true → u 106 = .int .i64 ((b2 - a2) * m)) ∧ (L 25 = true → u 107 = .int .i64 (a2 * n + (b2 - a2) * m)) ∧ (L 26 = true → u 108 = .int .i64 n) ∧ (L 27 = true → u 109 = .int .i64 q2) ∧ (L 28 = true → u 110 = .agg #[.int .i64 q1, .int .i64 q2]) ∧ (L 29 = true → ∃ (g : Nat) (x29_0 x29_1 : Value), u 14 = .pointer (some ⟨g, 0, none⟩) ∧ w5.heap.size ≤ g ∧ Lok W g 23 #[x29_0, x29_1] ∧ (L 30 = true → x29_0 = .int .i64 q1 ∧ x29_1 = .int .i64 q2)) ∧ (L 30 = true → L 29 = true)) (by kernel_rfl) (by kernel_rfl) 31 rfl ?h0r3 ?stepr3 ?finr3
  case hFr3 => intro u; simp only [putAll, Act.put, List.setIfInBounds_toArray, List.set]; exact rfl
  case h0r3 => intro L u hL; exact ⟨(Below.refl _ _).drew, (fun h => by simp [hL] at h), (fun h => by simp [hL] at h), (fun h => by simp [hL] at h), (fun h => by simp [hL] at h), (fun h => by simp [hL] at h), (fun h => by simp [hL] at h), (fun h => by simp [hL] at h), (fun h => by simp [hL] at h), (fun h => by simp [hL] at h), (fun h => by simp [hL] at h), (fun h => by simp [hL] at h), (fun h => by simp [hL] at h), (fun h => by simp [hL] at h), (fun h => by simp [hL] at h), (fun h => by simp [hL] at h), (fun h => by simp [hL] at h), (fun h => by simp [hL] at h), (fun h => by simp [hL] at h), (fun h => by simp [hL] at h), (fun h => by simp [hL] at h), (fun h => by simp [hL] at h), (fun h => by simp [hL] at h), (fun h => by simp [hL] at h), (fun h => by simp [hL] at h), (fun h => by simp [hL] at h), (fun h => by simp [hL] at h), (fun h => by simp [hL] at h), (fun h => by simp [hL] at h), (fun h => by simp [hL] at h), (fun h => by simp [hL] at h), (fun h => by simp [hL] at h)⟩
  case stepr3 =>
    refine ops_all (ops_cons ?s0r3 (ops_cons ?s1r3 (ops_cons ?s2r3 (ops_cons ?s3r3 (ops_cons ?s4r3 (ops_cons ?s5r3 (ops_cons ?s6r3 (ops_cons ?s7r3 (ops_cons ?s8r3 (ops_cons ?s9r3 (ops_cons ?s10r3 (ops_cons ?s11r3 (ops_cons ?s12r3 (ops_cons ?s13r3 (ops_cons ?s14r3 (ops_cons ?s15r3 (ops_cons ?s16r3 (ops_cons ?s17r3 (ops_cons ?s18r3 (ops_cons ?s19r3 (ops_cons ?s20r3 (ops_cons ?s21r3 (ops_cons ?s22r3 (ops_cons ?s23r3 (ops_cons ?s24r3 (ops_cons ?s25r3 (ops_cons ?s26r3 (ops_cons ?s27r3 (ops_cons ?s28r3 (ops_cons ?s29r3 (ops_cons ?s30r3 (ops_nil))))))))))))))))))))))))))))))))
    case s0r3 =>
      rintro L u W ⟨hB, c0, c1, c2, c3, c4, c5, c6, c7, c8, c9, c10, c11, c12, c13, c14, c15, c16, c17, c18, c19, c20, c21, c22, c23, c24, c25, c26, c27, c28, c29, d30⟩ hf hd K hK
      dsimp only at hK
      clear hd
      go_simp
      refine hK _ _ ?_ (fun h => by cases h)
      intro s hs
      cases hs
      exact ⟨hB, (fun _ => rfl), c1, c2, c3, c4, c5, c6, c7, c8, c9, c10, c11, c12, c13, c14, c15, c16, c17, c18, c19, c20, c21, c22, c23, c24, c25, c26, c27, c28, c29, d30⟩
    case s1r3 =>
      rintro L u W ⟨hB, c0, c1, c2, c3, c4, c5, c6, c7, c8, c9, c10, c11, c12, c13, c14, c15, c16, c17, c18, c19, c20, c21, c22, c23, c24, c25, c26, c27, c28, c29, d30⟩ hf hd K hK
      dsimp only at hK
      have hd0 : L 0 = true := (by first | (refine hd ⟨0, .data⟩ ?_ rfl; simp; done) | (refine hd ⟨0, .guard⟩ ?_ rfl; simp; done) | (refine hd ⟨0, .phase⟩ ?_ rfl; simp; done) | (refine hd ⟨0, .chain⟩ ?_ rfl; simp; done))
      have e0 := c0 hd0
      rw [e0] at hK
      have t0 := (kp.out.keep hB).cell (i := 0) rfl
      clear hd0
      clear hd
      go_simp
      refine hK _ _ ?_ (fun h => by cases h)
      intro s hs
      cases hs
      exact ⟨hB, c0, (fun _ => rfl), c2, c3, c4, c5, c6, c7, c8, c9, c10, c11, c12, c13, c14, c15, c16, c17, c18, c19, c20, c21, c22, c23, c24, c25, c26, c27, c28, c29, d30⟩
    case s2r3 =>
      rintro L u W ⟨hB, c0, c1, c2, c3, c4, c5, c6, c7, c8, c9, c10, c11, c12, c13, c14, c15, c16, c17, c18, c19, c20, c21, c22, c23, c24, c25, c26, c27, c28, c29, d30⟩ hf hd K hK
      dsimp only at hK
      clear hd
      go_simp
      refine hK _ _ ?_ (fun h => by cases h)
      intro s hs
      cases hs
      exact ⟨hB, c0, c1, (fun _ => rfl), c3, c4, c5, c6, c7, c8, c9, c10, c11, c12, c13, c14, c15, c16, c17, c18, c19, c20, c21, c22, c23, c24, c25, c26, c27, c28, c29, d30⟩
    case s3r3 =>
      rintro L u W ⟨hB, c0, c1, c2, c3, c4, c5, c6, c7, c8, c9, c10, c11, c12, c13, c14, c15, c16, c17, c18, c19, c20, c21, c22, c23, c24, c25, c26, c27, c28, c29, d30⟩ hf hd K hK
      dsimp only at hK
      have hd1 : L 1 = true := (by first | (refine hd ⟨1, .data⟩ ?_ rfl; simp; done) | (refine hd ⟨1, .guard⟩ ?_ rfl; simp; done) | (refine hd ⟨1, .phase⟩ ?_ rfl; simp; done) | (refine hd ⟨1, .chain⟩ ?_ rfl; simp; done))
      have hd2 : L 2 = true := (by first | (refine hd ⟨2, .data⟩ ?_ rfl; simp; done) | (refine hd ⟨2, .guard⟩ ?_ rfl; simp; done) | (refine hd ⟨2, .phase⟩ ?_ rfl; simp; done) | (refine hd ⟨2, .chain⟩ ?_ rfl; simp; done))
      have e1 := c1 hd1
      rw [e1] at hK
      have e2 := c2 hd2
      rw [e2] at hK
      clear hd1
      clear hd2
      clear hd
      go_simp
      refine hK _ _ ?_ (fun h => by cases h)
      intro s hs
      cases hs
      exact ⟨hB, c0, c1, c2, (fun _ => rfl), c4, c5, c6, c7, c8, c9, c10, c11, c12, c13, c14, c15, c16, c17, c18, c19, c20, c21, c22, c23, c24, c25, c26, c27, c28, c29, d30⟩
    case s4r3 =>
      rintro L u W ⟨hB, c0, c1, c2, c3, c4, c5, c6, c7, c8, c9, c10, c11, c12, c13, c14, c15, c16, c17, c18, c19, c20, c21, c22, c23, c24, c25, c26, c27, c28, c29, d30⟩ hf hd K hK
      dsimp only at hK
      clear hd
      go_simp
      refine hK _ _ ?_ (fun h => by cases h)
      intro s hs
      cases hs
      exact ⟨hB, c0, c1, c2, c3, (fun _ => rfl), c5, c6, c7, c8, c9, c10, c11, c12, c13, c14, c15, c16, c17, c18, c19, c20, c21, c22, c23, c24, c25, c26, c27, c28, c29, d30⟩
    case s5r3 =>
      rintro L u W ⟨hB, c0, c1, c2, c3, c4, c5, c6, c7, c8, c9, c10, c11, c12, c13, c14, c15, c16, c17, c18, c19, c20, c21, c22, c23, c24, c25, c26, c27, c28, c29, d30⟩ hf hd K hK
      dsimp only at hK
      have hd4 : L 4 = true := (by first | (refine hd ⟨4, .data⟩ ?_ rfl; simp; done) | (refine hd ⟨4, .guard⟩ ?_ rfl; simp; done) | (refine hd ⟨4, .phase⟩ ?_ rfl; simp; done) | (refine hd ⟨4, .chain⟩ ?_ rfl; simp; done))
      have e4 := c4 hd4
      rw [e4] at hK
      have t0 := (kq.out.keep hB).cell (i := 0) rfl
      clear hd4
      clear hd
      go_simp
      refine hK _ _ ?_ (fun h => by cases h)
      intro s hs
      cases hs
      exact ⟨hB, c0, c1, c2, c3, c4, (fun _ => rfl), c6, c7, c8, c9, c10, c11, c12, c13, c14, c15, c16, c17, c18, c19, c20, c21, c22, c23, c24, c25, c26, c27, c28, c29, d30⟩
    case s6r3 =>
      rintro L u W ⟨hB, c0, c1, c2, c3, c4, c5, c6, c7, c8, c9, c10, c11, c12, c13, c14, c15, c16, c17, c18, c19, c20, c21, c22, c23, c24, c25, c26, c27, c28, c29, d30⟩ hf hd K hK
      dsimp only at hK
      clear hd
      go_simp
      refine hK _ _ ?_ (fun h => by cases h)
      intro s hs
      cases hs
      exact ⟨hB, c0, c1, c2, c3, c4, c5, (fun _ => rfl), c7, c8, c9, c10, c11, c12, c13, c14, c15, c16, c17, c18, c19, c20, c21, c22, c23, c24, c25, c26, c27, c28, c29, d30⟩
    case s7r3 =>
      rintro L u W ⟨hB, c0, c1, c2, c3, c4, c5, c6, c7, c8, c9, c10, c11, c12, c13, c14, c15, c16, c17, c18, c19, c20, c21, c22, c23, c24, c25, c26, c27, c28, c29, d30⟩ hf hd K hK
      dsimp only at hK
      have hd6 : L 6 = true := (by first | (refine hd ⟨6, .data⟩ ?_ rfl; simp; done) | (refine hd ⟨6, .guard⟩ ?_ rfl; simp; done) | (refine hd ⟨6, .phase⟩ ?_ rfl; simp; done) | (refine hd ⟨6, .chain⟩ ?_ rfl; simp; done))
      have e6 := c6 hd6
      rw [e6] at hK
      have t0 := (kp.out.keep hB).cell (i := 0) rfl
      clear hd6
      clear hd
      go_simp
      refine hK _ _ ?_ (fun h => by cases h)
      intro s hs
      cases hs
      exact ⟨hB, c0, c1, c2, c3, c4, c5, c6, (fun _ => rfl), c8, c9, c10, c11, c12, c13, c14, c15, c16, c17, c18, c19, c20, c21, c22, c23, c24, c25, c26, c27, c28, c29, d30⟩
    case s8r3 =>
      rintro L u W ⟨hB, c0, c1, c2, c3, c4, c5, c6, c7, c8, c9, c10, c11, c12, c13, c14, c15, c16, c17, c18, c19, c20, c21, c22, c23, c24, c25, c26, c27, c28, c29, d30⟩ hf hd K hK
      dsimp only at hK
      have hd5 : L 5 = true := (by first | (refine hd ⟨5, .data⟩ ?_ rfl; simp; done) | (refine hd ⟨5, .guard⟩ ?_ rfl; simp; done) | (refine hd ⟨5, .phase⟩ ?_ rfl; simp; done) | (refine hd ⟨5, .chain⟩ ?_ rfl; simp; done))
      have hd7 : L 7 = true := (by first | (refine hd ⟨7, .data⟩ ?_ rfl; simp; done) | (refine hd ⟨7, .guard⟩ ?_ rfl; simp; done) | (refine hd ⟨7, .phase⟩ ?_ rfl; simp; done) | (refine hd ⟨7, .chain⟩ ?_ rfl; simp; done))
      have e5 := c5 hd5
      rw [e5] at hK
      have e7 := c7 hd7
      rw [e7] at hK
      clear hd5
      clear hd7
      clear hd
      go_simp
      refine hK _ _ ?_ (fun h => by cases h)
      intro s hs
      cases hs
      exact ⟨hB, c0, c1, c2, c3, c4, c5, c6, c7, (fun _ => rfl), c9, c10, c11, c12, c13, c14, c15, c16, c17, c18, c19, c20, c21, c22, c23, c24, c25, c26, c27, c28, c29, d30⟩
    case s9r3 =>
      rintro L u W ⟨hB, c0, c1, c2, c3, c4, c5, c6, c7, c8, c9, c10, c11, c12, c13, c14, c15, c16, c17, c18, c19, c20, c21, c22, c23, c24, c25, c26, c27, c28, c29, d30⟩ hf hd K hK
      dsimp only at hK
      clear hd
      go_simp
      refine hK _ _ ?_ (fun h => by cases h)
      intro s hs
      cases hs
      exact ⟨hB, c0, c1, c2, c3, c4, c5, c6, c7, c8, (fun _ => rfl), c10, c11, c12, c13, c14, c15, c16, c17, c18, c19, c20, c21, c22, c23, c24, c25, c26, c27, c28, c29, d30⟩
    case s10r3 =>
      rintro L u W ⟨hB, c0, c1, c2, c3, c4, c5, c6, c7, c8, c9, c10, c11, c12, c13, c14, c15, c16, c17, c18, c19, c20, c21, c22, c23, c24, c25, c26, c27, c28, c29, d30⟩ hf hd K hK
      dsimp only at hK
      have hd8 : L 8 = true := (by first | (refine hd ⟨8, .data⟩ ?_ rfl; simp; done) | (refine hd ⟨8, .guard⟩ ?_ rfl; simp; done) | (refine hd ⟨8, .phase⟩ ?_ rfl; simp; done) | (refine hd ⟨8, .chain⟩ ?_ rfl; simp; done))
      have hd9 : L 9 = true := (by first | (refine hd ⟨9, .data⟩ ?_ rfl; simp; done) | (refine hd ⟨9, .guard⟩ ?_ rfl; simp; done) | (refine hd ⟨9, .phase⟩ ?_ rfl; simp; done) | (refine hd ⟨9, .chain⟩ ?_ rfl; simp; done))
      have e8 := c8 hd8
      rw [e8] at hK
      have e9 := c9 hd9
      rw [e9] at hK
      clear hd8
      clear hd9
      clear hd
      go_simp
      refine hK _ _ ?_ (fun h => by cases h)
      intro s hs
      cases hs
      exact ⟨hB, c0, c1, c2, c3, c4, c5, c6, c7, c8, c9, (fun _ => rfl), c11, c12, c13, c14, c15, c16, c17, c18, c19, c20, c21, c22, c23, c24, c25, c26, c27, c28, c29, d30⟩
    case s11r3 =>
      rintro L u W ⟨hB, c0, c1, c2, c3, c4, c5, c6, c7, c8, c9, c10, c11, c12, c13, c14, c15, c16, c17, c18, c19, c20, c21, c22, c23, c24, c25, c26, c27, c28, c29, d30⟩ hf hd K hK
      dsimp only at hK
      have hd3 : L 3 = true := (by first | (refine hd ⟨3, .data⟩ ?_ rfl; simp; done) | (refine hd ⟨3, .guard⟩ ?_ rfl; simp; done) | (refine hd ⟨3, .phase⟩ ?_ rfl; simp; done) | (refine hd ⟨3, .chain⟩ ?_ rfl; simp; done))
      have hd10 : L 10 = true := (by first | (refine hd ⟨10, .data⟩ ?_ rfl; simp; done) | (refine hd ⟨10, .guard⟩ ?_ rfl; simp; done) | (refine hd ⟨10, .phase⟩ ?_ rfl; simp; done) | (refine hd ⟨10, .chain⟩ ?_ rfl; simp; done))
      have e3 := c3 hd3
      rw [e3] at hK
      have e10 := c10 hd10
      rw [e10] at hK
      clear hd3
      clear hd10
      clear hd
      go_simp
      refine hK _ _ ?_ (fun h => by cases h)
      intro s hs
      cases hs
      exact ⟨hB, c0, c1, c2, c3, c4, c5, c6, c7, c8, c9, c10, (fun _ => rfl), c12, c13, c14, c15, c16, c17, c18, c19, c20, c21, c22, c23, c24, c25, c26, c27, c28, c29, d30⟩
    case s12r3 =>
      rintro L u W ⟨hB, c0, c1, c2, c3, c4, c5, c6, c7, c8, c9, c10, c11, c12, c13, c14, c15, c16, c17, c18, c19, c20, c21, c22, c23, c24, c25, c26, c27, c28, c29, d30⟩ hf hd K hK
      dsimp only at hK
      clear hd
      go_simp
      refine hK _ _ ?_ (fun h => by cases h)
      intro s hs
      cases hs
      exact ⟨hB, c0, c1, c2, c3, c4, c5, c6, c7, c8, c9, c10, c11, (fun _ => rfl), c13, c14, c15, c16, c17, c18, c19, c20, c21, c22, c23, c24, c25, c26, c27, c28, c29, d30⟩
    case s13r3 =>
      rintro L u W ⟨hB, c0, c1, c2, c3, c4, c5, c6, c7, c8, c9, c10, c11, c12, c13, c14, c15, c16, c17, c18, c19, c20, c21, c22, c23, c24, c25, c26, c27, c28, c29, d30⟩ hf hd K hK
      dsimp only at hK
      have hd11 : L 11 = true := (by first | (refine hd ⟨11, .data⟩ ?_ rfl; simp; done) | (refine hd ⟨11, .guard⟩ ?_ rfl; simp; done) | (refine hd ⟨11, .phase⟩ ?_ rfl; simp; done) | (refine hd ⟨11, .chain⟩ ?_ rfl; simp; done))
      have hd12 : L 12 = true := (by first | (refine hd ⟨12, .data⟩ ?_ rfl; simp; done) | (refine hd ⟨12, .guard⟩ ?_ rfl; simp; done) | (refine hd ⟨12, .phase⟩ ?_ rfl; simp; done) | (refine hd ⟨12, .chain⟩ ?_ rfl; simp; done))
      have e11 := c11 hd11
      rw [e11] at hK
      have e12 := c12 hd12
      rw [e12] at hK
      clear hd11
      clear hd12
      clear hd
      go_simp
      go_wp2_with (go_at_call 26; ((with_reducible refine (G1.out _).mono ?_); rintro e w5 ⟨rfl, hb⟩))
      refine hK _ _ ?_ (fun h => by cases h)
      intro s hs
      cases hs
      exact ⟨hB.trans (hb.mono hB.size), c0, c1, c2, c3, c4, c5, c6, c7, c8, c9, c10, c11, c12, (fun _ => rfl), c14, c15, c16, c17, c18, c19, c20, c21, c22, c23, c24, c25, c26, c27, c28, (fun h => by obtain ⟨g, x29_0, x29_1, k1, k2, k3, k4⟩ := c29 h; exact ⟨g, x29_0, x29_1, k1, k2, k3.keep hb, k4⟩), d30⟩
    case s14r3 =>
      rintro L u W ⟨hB, c0, c1, c2, c3, c4, c5, c6, c7, c8, c9, c10, c11, c12, c13, c14, c15, c16, c17, c18, c19, c20, c21, c22, c23, c24, c25, c26, c27, c28, c29, d30⟩ hf hd K hK
      dsimp only at hK
      clear hd
      go_simp
      refine hK _ _ ?_ (fun h => by cases h)
      intro s hs
      cases hs
      exact ⟨hB, c0, c1, c2, c3, c4, c5, c6, c7, c8, c9, c10, c11, c12, c13, (fun _ => rfl), c15, c16, c17, c18, c19, c20, c21, c22, c23, c24, c25, c26, c27, c28, c29, d30⟩
    case s15r3 =>
      rintro L u W ⟨hB, c0, c1, c2, c3, c4, c5, c6, c7, c8, c9, c10, c11, c12, c13, c14, c15, c16, c17, c18, c19, c20, c21, c22, c23, c24, c25, c26, c27, c28, c29, d30⟩ hf hd K hK
      dsimp only at hK
      have hd14 : L 14 = true := (by first | (refine hd ⟨14, .data⟩ ?_ rfl; simp; done) | (refine hd ⟨14, .guard⟩ ?_ rfl; simp; done) | (refine hd ⟨14, .phase⟩ ?_ rfl; simp; done) | (refine hd ⟨14, .chain⟩ ?_ rfl; simp; done))
      have e14 := c14 hd14
      rw [e14] at hK
      have t0 := (kp.out.keep hB).cell (i := 1) rfl
      clear hd14
      clear hd
      go_simp
      refine hK _ _ ?_ (fun h => by cases h)
      intro s hs
      cases hs
      exact ⟨hB, c0, c1, c2, c3, c4, c5, c6, c7, c8, c9, c10, c11, c12, c13, c14, (fun _ => rfl), c16, c17, c18, c19, c20, c21, c22, c23, c24, c25, c26, c27, c28, c29, d30⟩
    case s16r3 =>
      rintro L u W ⟨hB, c0, c1, c2, c3, c4, c5, c6, c7, c8, c9, c10, c11, c12, c13, c14, c15, c16, c17, c18, c19, c20, c21, c22, c23, c24, c25, c26, c27, c28, c29, d30⟩ hf hd K hK
      dsimp only at hK
      clear hd
      go_simp
      refine hK _ _ ?_ (fun h => by cases h)
      intro s hs
      cases hs
      exact ⟨hB, c0, c1, c2, c3, c4, c5, c6, c7, c8, c9, c10, c11, c12, c13, c14, c15, (fun _ => rfl), c17, c18, c19, c20, c21, c22, c23, c24, c25, c26, c27, c28, c29, d30⟩
    case s17r3 =>
      rintro L u W ⟨hB, c0, c1, c2, c3, c4, c5, c6, c7, c8, c9, c10, c11, c12, c13, c14, c15, c16, c17, c18, c19, c20, c21, c22, c23, c24, c25, c26, c27, c28, c29, d30⟩ hf hd K hK
      dsimp only at hK
      have hd15 : L 15 = true := (by first | (refine hd ⟨15, .data⟩ ?_ rfl; simp; done) | (refine hd ⟨15, .guard⟩ ?_ rfl; simp; done) | (refine hd ⟨15, .phase⟩ ?_ rfl; simp; done) | (refine hd ⟨15, .chain⟩ ?_ rfl; simp; done))
      have hd16 : L 16 = true := (by first | (refine hd ⟨16, .data⟩ ?_ rfl; simp; done) | (refine hd ⟨16, .guard⟩ ?_ rfl; simp; done) | (refine hd ⟨16, .phase⟩ ?_ rfl; simp; done) | (refine hd ⟨16, .chain⟩ ?_ rfl; simp; done))
      have e15 := c15 hd15
      rw [e15] at hK
      have e16 := c16 hd16
      rw [e16] at hK
      clear hd15
      clear hd16
      clear hd
      go_simp
      refine hK _ _ ?_ (fun h => by cases h)
      intro s hs
      cases hs
      exact ⟨hB, c0, c1, c2, c3, c4, c5, c6, c7, c8, c9, c10, c11, c12, c13, c14, c15, c16, (fun _ => rfl), c18, c19, c20, c21, c22, c23, c24, c25, c26, c27, c28, c29, d30⟩
    case s18r3 =>
      rintro L u W ⟨hB, c0, c1, c2, c3, c4, c5, c6, c7, c8, c9, c10, c11, c12, c13, c14, c15, c16, c17, c18, c19, c20, c21, c22, c23, c24, c25, c26, c27, c28, c29, d30⟩ hf hd K hK
      dsimp only at hK
      clear hd
      go_simp
      refine hK _ _ ?_ (fun h => by cases h)
      intro s hs
      cases hs
      exact ⟨hB, c0, c1, c2, c3, c4, c5, c6, c7, c8, c9, c10, c11, c12, c13, c14, c15, c16, c17, (fun _ => rfl), c19, c20, c21, c22, c23, c24, c25, c26, c27, c28, c29, d30⟩
    case s19r3 =>
      rintro L u W ⟨hB, c0, c1, c2, c3, c4, c5, c6, c7, c8, c9, c10, c11, c12, c13, c14, c15, c16, c17, c18, c19, c20, c21, c22, c23, c24, c25, c26, c27, c28, c29, d30⟩ hf hd K hK
      dsimp only at hK
      have hd18 : L 18 = true := (by first | (refine hd ⟨18, .data⟩ ?_ rfl; simp; done) | (refine hd ⟨18, .guard⟩ ?_ rfl; simp; done) | (refine hd ⟨18, .phase⟩ ?_ rfl; simp; done) | (refine hd ⟨18, .chain⟩ ?_ rfl; simp; done))
      have e18 := c18 hd18
      rw [e18] at hK
      have t0 := (kq.out.keep hB).cell (i := 1) rfl
      clear hd18
      clear hd
      go_simp
      refine hK _ _ ?_ (fun h => by cases h)
      intro s hs
      cases hs
      exact ⟨hB, c0, c1, c2, c3, c4, c5, c6, c7, c8, c9, c10, c11, c12, c13, c14, c15, c16, c17, c18, (fun _ => rfl), c20, c21, c22, c23, c24, c25, c26, c27, c28, c29, d30⟩
    case s20r3 =>
      rintro L u W ⟨hB, c0, c1, c2, c3, c4, c5, c6, c7, c8, c9, c10, c11, c12, c13, c14, c15, c16, c17, c18, c19, c20, c21, c22, c23, c24, c25, c26, c27, c28, c29, d30⟩ hf hd K hK
      dsimp only at hK
      clear hd
      go_simp
      refine hK _ _ ?_ (fun h => by cases h)
      intro s hs
      cases hs
      exact ⟨hB, c0, c1, c2, c3, c4, c5, c6, c7, c8, c9, c10, c11, c12, c13, c14, c15, c16, c17, c18, c19, (fun _ => rfl), c21, c22, c23, c24, c25, c26, c27, c28, c29, d30⟩
    case s21r3 =>
      rintro L u W ⟨hB, c0, c1, c2, c3, c4, c5, c6, c7, c8, c9, c10, c11, c12, c13, c14, c15, c16, c17, c18, c19, c20, c21, c22, c23, c24, c25, c26, c27, c28, c29, d30⟩ hf hd K hK
      dsimp only at hK
      have hd20 : L 20 = true := (by first | (refine hd ⟨20, .data⟩ ?_ rfl; simp; done) | (refine hd ⟨20, .guard⟩ ?_ rfl; simp; done) | (refine hd ⟨20, .phase⟩ ?_ rfl; simp; done) | (refine hd ⟨20, .chain⟩ ?_ rfl; simp; done))
      have e20 := c20 hd20
      rw [e20] at hK
      have t0 := (kp.out.keep hB).cell (i := 1) rfl
      clear hd20
      clear hd
      go_simp
      refine hK _ _ ?_ (fun h => by cases h)
      intro s hs
      cases hs
      exact ⟨hB, c0, c1, c2, c3, c4, c5, c6, c7, c8, c9, c10, c11, c12, c13, c14, c15, c16, c17, c18, c19, c20, (fun _ => rfl), c22, c23, c24, c25, c26, c27, c28, c29, d30⟩
    case s22r3 =>
      rintro L u W ⟨hB, c0, c1, c2, c3, c4, c5, c6, c7, c8, c9, c10, c11, c12, c13, c14, c15, c16, c17, c18, c19, c20, c21, c22, c23, c24, c25, c26, c27, c28, c29, d30⟩ hf hd K hK
      dsimp only at hK
      have hd19 : L 19 = true := (by first | (refine hd ⟨19, .data⟩ ?_ rfl; simp; done) | (refine hd ⟨19, .guard⟩ ?_ rfl; simp; done) | (refine hd ⟨19, .phase⟩ ?_ rfl; simp; done) | (refine hd ⟨19, .chain⟩ ?_ rfl; simp; done))
      have hd21 : L 21 = true := (by first | (refine hd ⟨21, .data⟩ ?_ rfl; simp; done) | (refine hd ⟨21, .guard⟩ ?_ rfl; simp; done) | (refine hd ⟨21, .phase⟩ ?_ rfl; simp; done) | (refine hd ⟨21, .chain⟩ ?_ rfl; simp; done))
      have e19 := c19 hd19
      rw [e19] at hK
      have e21 := c21 hd21
      rw [e21] at hK
      clear hd19
      clear hd21
      clear hd
      go_simp
      refine hK _ _ ?_ (fun h => by cases h)
      intro s hs
      cases hs
      exact ⟨hB, c0, c1, c2, c3, c4, c5, c6, c7, c8, c9, c10, c11, c12, c13, c14, c15, c16, c17, c18, c19, c20, c21, (fun _ => rfl), c23, c24, c25, c26, c27, c28, c29, d30⟩
    case s23r3 =>
      rintro L u W ⟨hB, c0, c1, c2, c3, c4, c5, c6, c7, c8, c9, c10, c11, c12, c13, c14, c15, c16, c17, c18, c19, c20, c21, c22, c23, c24, c25, c26, c27, c28, c29, d30⟩ hf hd K hK
      dsimp only at hK
      clear hd
      go_simp
      refine hK _ _ ?_ (fun h => by cases h)
      intro s hs
      cases hs
      exact ⟨hB, c0, c1, c2, c3, c4, c5, c6, c7, c8, c9, c10, c11, c12, c13, c14, c15, c16, c17, c18, c19, c20, c21, c22, (fun _ => rfl), c24, c25, c26, c27, c28, c29, d30⟩
    case s24r3 =>
      rintro L u W ⟨hB, c0, c1, c2, c3, c4, c5, c6, c7, c8, c9, c10, c11, c12, c13, c14, c15, c16, c17, c18, c19, c20, c21, c22, c23, c24, c25, c26, c27, c28, c29, d30⟩ hf hd K hK
      dsimp only at hK
      have hd22 : L 22 = true := (by first | (refine hd ⟨22, .data⟩ ?_ rfl; simp; done) | (refine hd ⟨22, .guard⟩ ?_ rfl; simp; done) | (refine hd ⟨22, .phase⟩ ?_ rfl; simp; done) | (refine hd ⟨22, .chain⟩ ?_ rfl; simp; done))
      have hd23 : L 23 = true := (by first | (refine hd ⟨23, .data⟩ ?_ rfl; simp; done) | (refine hd ⟨23, .guard⟩ ?_ rfl; simp; done) | (refine hd ⟨23, .phase⟩ ?_ rfl; simp; done) | (refine hd ⟨23, .chain⟩ ?_ rfl; simp; done))
      have e22 := c22 hd22
      rw [e22] at hK
      have e23 := c23 hd23
      rw [e23] at hK
      clear hd22
      clear hd23
      clear hd
      go_simp
      refine hK _ _ ?_ (fun h => by cases h)
      intro s hs
      cases hs
      exact ⟨hB, c0, c1, c2, c3, c4, c5, c6, c7, c8, c9, c10, c11, c12, c13, c14, c15, c16, c17, c18, c19, c20, c21, c22, c23, (fun _ => rfl), c25, c26, c27, c28, c29, d30⟩
    case s25r3 =>
      rintro L u W ⟨hB, c0, c1, c2, c3, c4, c5, c6, c7, c8, c9, c10, c11, c12, c13, c14, c15, c16, c17, c18, c19, c20, c21, c22, c23, c24, c25, c26, c27, c28, c29, d30⟩ hf hd K hK
      dsimp only at hK
      have hd17 : L 17 = true := (by first | (refine hd ⟨17, .data⟩ ?_ rfl; simp; done) | (refine hd ⟨17, .guard⟩ ?_ rfl; simp; done) | (refine hd ⟨17, .phase⟩ ?_ rfl; simp; done) | (refine hd ⟨17, .chain⟩ ?_ rfl; simp; done))
      have hd24 : L 24 = true := (by first | (refine hd ⟨24, .data⟩ ?_ rfl; simp; done) | (refine hd ⟨24, .guard⟩ ?_ rfl; simp; done) | (refine hd ⟨24, .phase⟩ ?_ rfl; simp; done) | (refine hd ⟨24, .chain⟩ ?_ rfl; simp; done))
      have e17 := c17 hd17
      rw [e17] at hK
      have e24 := c24 hd24
      rw [e24] at hK
      clear hd17
      clear hd24
      clear hd
      go_simp
      refine hK _ _ ?_ (fun h => by cases h)
      intro s hs
      cases hs
      exact ⟨hB, c0, c1, c2, c3, c4, c5, c6, c7, c8, c9, c10, c11, c12, c13, c14, c15, c16, c17, c18, c19, c20, c21, c22, c23, c24, (fun _ => rfl), c26, c27, c28, c29, d30⟩
    case s26r3 =>
      rintro L u W ⟨hB, c0, c1, c2, c3, c4, c5, c6, c7, c8, c9, c10, c11, c12, c13, c14, c15, c16, c17, c18, c19, c20, c21, c22, c23, c24, c25, c26, c27, c28, c29, d30⟩ hf hd K hK
      dsimp only at hK
      clear hd
      go_simp
      refine hK _ _ ?_ (fun h => by cases h)
      intro s hs
      cases hs
      exact ⟨hB, c0, c1, c2, c3, c4, c5, c6, c7, c8, c9, c10, c11, c12, c13, c14, c15, c16, c17, c18, c19, c20, c21, c22, c23, c24, c25, (fun _ => rfl), c27, c28, c29, d30⟩
    case s27r3 =>
      rintro L u W ⟨hB, c0, c1, c2, c3, c4, c5, c6, c7, c8, c9, c10, c11, c12, c13, c14, c15, c16, c17, c18, c19, c20, c21, c22, c23, c24, c25, c26, c27, c28, c29, d30⟩ hf hd K hK
      dsimp only at hK
      have hd25 : L 25 = true := (by first | (refine hd ⟨25, .data⟩ ?_ rfl; simp; done) | (refine hd ⟨25, .guard⟩ ?_ rfl; simp; done) | (refine hd ⟨25, .phase⟩ ?_ rfl; simp; done) | (refine hd ⟨25, .chain⟩ ?_ rfl; simp; done))
      have hd26 : L 26 = true := (by first | (refine hd ⟨26, .data⟩ ?_ rfl; simp; done) | (refine hd ⟨26, .guard⟩ ?_ rfl; simp; done) | (refine hd ⟨26, .phase⟩ ?_ rfl; simp; done) | (refine hd ⟨26, .chain⟩ ?_ rfl; simp; done))
      have e25 := c25 hd25
      rw [e25] at hK
      have e26 := c26 hd26
      rw [e26] at hK
      clear hd25
      clear hd26
      clear hd
      go_simp
      go_wp2_with (go_at_call 26; ((with_reducible refine (G2.out _).mono ?_); rintro e w5 ⟨rfl, hb⟩))
      refine hK _ _ ?_ (fun h => by cases h)
      intro s hs
      cases hs
      exact ⟨hB.trans (hb.mono hB.size), c0, c1, c2, c3, c4, c5, c6, c7, c8, c9, c10, c11, c12, c13, c14, c15, c16, c17, c18, c19, c20, c21, c22, c23, c24, c25, c26, (fun _ => rfl), c28, (fun h => by obtain ⟨g, x29_0, x29_1, k1, k2, k3, k4⟩ := c29 h; exact ⟨g, x29_0, x29_1, k1, k2, k3.keep hb, k4⟩), d30⟩
    case s28r3 =>
      rintro L u W ⟨hB, c0, c1, c2, c3, c4, c5, c6, c7, c8, c9, c10, c11, c12, c13, c14, c15, c16, c17, c18, c19, c20, c21, c22, c23, c24, c25, c26, c27, c28, c29, d30⟩ hf hd K hK
      dsimp only at hK
      have hd13 : L 13 = true := (by first | (refine hd ⟨13, .data⟩ ?_ rfl; simp; done) | (refine hd ⟨13, .guard⟩ ?_ rfl; simp; done) | (refine hd ⟨13, .phase⟩ ?_ rfl; simp; done) | (refine hd ⟨13, .chain⟩ ?_ rfl; simp; done))
      have hd27 : L 27 = true := (by first | (refine hd ⟨27, .data⟩ ?_ rfl; simp; done) | (refine hd ⟨27, .guard⟩ ?_ rfl; simp; done) | (refine hd ⟨27, .phase⟩ ?_ rfl; simp; done) | (refine hd ⟨27, .chain⟩ ?_ rfl; simp; done))
      have e13 := c13 hd13
      rw [e13] at hK
      have e27 := c27 hd27
      rw [e27] at hK
      clear hd13
      clear hd27
      clear hd
      go_simp
      refine hK _ _ ?_ (fun h => by cases h)
      intro s hs
      cases hs
      exact ⟨hB, c0, c1, c2, c3, c4, c5, c6, c7, c8, c9, c10, c11, c12, c13, c14, c15, c16, c17, c18, c19, c20, c21, c22, c23, c24, c25, c26, c27, (fun _ => rfl), c29, d30⟩
    case s29r3 =>
      rintro L u W ⟨hB, c0, c1, c2, c3, c4, c5, c6, c7, c8, c9, c10, c11, c12, c13, c14, c15, c16, c17, c18, c19, c20, c21, c22, c23, c24, c25, c26, c27, c28, c29, d30⟩ hf hd K hK
      dsimp only at hK
      go_simp
      have hb : Below W.heap.size W (W.alloc (.cells #[.int .i64 0, .int .i64 0] 23)) := (Below.refl _ W).alloc (Nat.le_refl _) _
      refine hK _ _ ?_ (fun h => by cases h)
      intro s hs
      cases hs
      exact ⟨hB.trans (hb.mono hB.size), c0, c1, c2, c3, c4, c5, c6, c7, c8, c9, c10, c11, c12, c13, c14, c15, c16, c17, c18, c19, c20, c21, c22, c23, c24, c25, c26, c27, c28, (fun _ => ⟨_, _, _, rfl, hB.size, Lok.new _ _ _, fun h => absurd (d30 h) (by rw [hf]; decide)⟩), (fun _ => rfl)⟩
    case s30r3 =>
      rintro L u W ⟨hB, c0, c1, c2, c3, c4, c5, c6, c7, c8, c9, c10, c11, c12, c13, c14, c15, c16, c17, c18, c19, c20, c21, c22, c23, c24, c25, c26, c27, c28, c29, d30⟩ hf hd K hK
      dsimp only at hK
      have hd29 : L 29 = true := hd ⟨29, .data⟩ (by simp) rfl
      have hd28 : L 28 = true := (by first | (refine hd ⟨28, .data⟩ ?_ rfl; simp; done) | (refine hd ⟨28, .guard⟩ ?_ rfl; simp; done) | (refine hd ⟨28, .phase⟩ ?_ rfl; simp; done) | (refine hd ⟨28, .chain⟩ ?_ rfl; simp; done))
      obtain ⟨g, x29_0, x29_1, e29, k2, k3, k4⟩ := c29 hd29
      rw [e29] at hK
      have e28 := c28 hd28
      rw [e28] at hK
      have t0 := k3.cell (i := 0) rfl
      have f0 := k3.frozen 0
      have t1 := k3.cell (i := 1) rfl
      have f1 := k3.frozen 1
      have HH := Lib.hid (And.intro trivial trivial)
      clear hd
      have hd29' := Lib.hid hd29
      clear hd29
      have hd28' := Lib.hid hd28
      clear hd28
      go_simp
      have hd29 := hd29'.out
      have hd28 := hd28'.out
      have hlok := (k3.set (i := 0) (v := .int .i64 q1)).set (i := 1) (v := .int .i64 q2)
      refine hK undef _ (fun s h => by cases h) (fun _ => ?_)
      exact ⟨(hB.setCell k2 _).setCell k2 _, c0, c1, c2, c3, c4, c5, c6, c7, c8, c9, c10, c11, c12, c13, c14, c15, c16, c17, c18, c19, c20, c21, c22, c23, c24, c25, c26, c27, (fun _ => rfl), (fun _ => ⟨g, _, _, rfl, k2, hlok, fun _ => ⟨rfl, rfl⟩⟩), (fun _ => hd29)⟩
  case finr3 =>
    rintro L u W hL ⟨hB, c0, c1, c2, c3, c4, c5, c6, c7, c8, c9, c10, c11, c12, c13, c14, c15, c16, c17, c18, c19, c20, c21, c22, c23, c24, c25, c26, c27, c28, c29, d30⟩
    have e0 := c0 (hL 0 (by decide))
    have e1 := c1 (hL 1 (by decide))
    have e2 := c2 (hL 2 (by decide))
    have e3 := c3 (hL 3 (by decide))
    have e4 := c4 (hL 4 (by decide))
    have e5 := c5 (hL 5 (by decide))
    have e6 := c6 (hL 6 (by decide))
    have e7 := c7 (hL 7 (by decide))
    have e8 := c8 (hL 8 (by decide))
    have e9 := c9 (hL 9 (by decide))
    have e10 := c10 (hL 10 (by decide))
    have e11 := c11 (hL 11 (by decide))
    have e12 := c12 (hL 12 (by decide))
    have e13 := c13 (hL 13 (by decide))
    have e14 := c14 (hL 14 (by decide))
    have e15 := c15 (hL 15 (by decide))
    have e16 := c16 (hL 16 (by decide))
    have e17 := c17 (hL 17 (by decide))
    have e18 := c18 (hL 18 (by decide))
    have e19 := c19 (hL 19 (by decide))
    have e20 := c20 (hL 20 (by decide))
    have e21 := c21 (hL 21 (by decide))
    have e22 := c22 (hL 22 (by decide))
    have e23 := c23 (hL 23 (by decide))
    have e24 := c24 (hL 24 (by decide))
    have e25 := c25 (hL 25 (by decide))
    have e26 := c26 (hL 26 (by decide))
    have e27 := c27 (hL 27 (by decide))
    have e28 := c28 (hL 28 (by decide))
    obtain ⟨g29, x29_0, x29_1, e29, hg29, hlok29, hst29⟩ := c29 (hL 29 (by decide))
    obtain ⟨rfl, rfl⟩ := hst29 (hL 30 (by decide))
    clear hst29
    clear hL c0 c1 c2 c3 c4 c5 c6 c7 c8 c9 c10 c11 c12 c13 c14 c15 c16 c17 c18 c19 c20 c21 c22 c23 c24 c25 c26 c27 c28 c29 d30
    try simp only [e0, e1, e2, e3, e4, e5, e6, e7, e8, e9, e10, e11, e12, e13, e14, e15, e16, e17, e18, e19, e20, e21, e22, e23, e24, e25, e26, e27, e28, e29]
    clear e0 e1 e2 e3 e4 e5 e6 e7 e8 e9 e10 e11 e12 e13 e14 e15 e16 e17 e18 e19 e20 e21 e22 e23 e24 e25 e26 e27 e28 e29
    replace HB := Lib.hid (HB.out.trans (hB.mono HB.out.size))
    replace kr := Lib.hid (kr.out.keep hB)
    replace ks := Lib.hid (ks.out.keep hB)
    clear kx kp kq hB
    have z0 := hlok29.cell (i := 0) rfl
    have z1 := hlok29.cell (i := 1) rfl
    have r0 := kr.out.cell (i := 0) rfl
    have r1 := kr.out.cell (i := 1) rfl
    have s0 := ks.out.cell (i := 0) rfl
    have s1 := ks.out.cell (i := 1) rfl
    have fr0 := kr.out.frozen 0
    have fr1 := kr.out.frozen 1
    have fs0 := ks.out.frozen 0
    have fs1 := ks.out.frozen 1
    have x1 : g29 ≠ w.heap.size + 3 := by omega
    have x2 : g29 ≠ w.heap.size + 4 := by omega
    go_wp2_with fail
    exact bodyPost_ret (v := .tuple #[.agg #[.int .i64 q1, .int .i64 q2], .int .i64 2, .agg #[.int .i64 (r * r), .int .i64 n], .int .i64 0]) (by simp [results, Try.results9, go_sem, r0, r1, s0, s1]) rfl ⟨rfl, (((HB.out.setCell (by simp <;> omega) _).setCell (by simp <;> omega) _).setCell (by simp <;> omega) _).setCell (by simp <;> omega) _⟩
theorem redge_any (x y a1 a2 b1 b2 : Int) (t : Bool) (ht : (s2 x y && s2 a1 a2 && s2 b1 b2) = t) (w : World) :
    Calls Try.prog 9 #[.agg #[.int .i64 x, .int .i64 y], .agg #[.int .i64 a1, .int .i64 a2], .agg #[.int .i64 b1, .int .i64 b2]] w fun e' w' => e' = .returned (.tuple #[.agg #[.int .i64 (vF t (fX x y a1 a2 b1 b2)), .int .i64 (vF t (fY x y a1 a2 b1 b2))], .int .i64 (vF t (fK x y a1 a2 b1 b2)), .agg #[.int .i64 (vF t (fN x y a1 a2 b1 b2)), .int .i64 (vF t (fD x y a1 a2 b1 b2))], .int .i64 (rE t)]) ∧ Below w.heap.size w w' := by
  cases t with
  | false => simp only [vF_no, show rE false = 5 from rfl]; exact redge_no x y a1 a2 b1 b2 ht w
  | true =>
    simp only [vF_yes, show rE true = 0 from rfl]
    obtain ⟨hp, ha, hb⟩ := small_of3 ht
    unfold fX fY fN fD fK
    rcases eK_ways (em x y a1 a2 b1 b2) (sq a1 a2 b1 b2) with ⟨h, e⟩ | ⟨h, k, e⟩ | ⟨h, k, e⟩ <;> rw [e]
    · simp only [w3_0]; exact redge_0 x y a1 a2 b1 b2 h hp ha hb w
    · simp only [w3_1]; exact redge_1 x y a1 a2 b1 b2 h k hp ha hb w
    · simp only [w3_2]; exact redge_2 x y a1 a2 b1 b2 h k hp ha hb w
end Go.Proofs.Ytllamakemgogaaa
