/-
  Contracts of package frac: Cmp whatever stands there, Floor, Reduce.
-/
import Derived.Test.YtbcbocnblkepcaaFrB
import Derived.Test.YtbcbocnblkepcaaWhC
import Derived.RegionTactic
import Derived.BigRegion
namespace Go.Proofs.Ytbcbocnblkepcaa
open Go.RowKit

theorem fcmp_any (an ad bn bd : Int) (w : World) :
    Calls Try.prog 21 #[.agg #[.int .i64 an, .int .i64 ad], .agg #[.int .i64 bn, .int .i64 bd]] w fun e w' => e = .returned (.int .i64 (cmpF an ad bn bd)) ∧ Below w.heap.size w w' := by
  by_cases h : FR an ad ∧ FR bn bd
  · exact fcmp_right an ad bn bd w h.1 h.2
  · exact fcmp_other an ad bn bd w h

theorem flQ_div (n d : Int) (hd : 1 ≤ d) : flQ n d = n / d := by
  obtain ⟨e, p, _⟩ := fl_spec n d (by omega)
  obtain ⟨p0, p1⟩ := p (by omega)
  exact (fd_unique n d (flQ n d) (flR n d) hd e.symm p0 p1).1.symm
/-- What Floor answers. -/
def flF (n d : Int) : Int := if FR n d then n / d else 0
def erF (n d : Int) : Int := if FR n d then 0 else 1
theorem fr_dvb {n d : Int} (h : FR n d) : Dvb n d := ⟨by have := h.1; omega, fun k => by have := h.1; omega⟩
theorem fr_in {n d : Int} (h : FR n d) : In64 n ∧ In64 d := by unfold FR at h; unfold In64; omega
set_option maxHeartbeats 1000000 in
theorem ffloor_any (n d : Int) (w : World) :
    Calls Try.prog 9 #[.agg #[.int .i64 n, .int .i64 d]] w fun e w' => e = .returned (.tuple #[.int .i64 (flF n d), .int .i64 (erF n d)]) ∧ Below w.heap.size w w' := by
  unfold flF erF
  by_cases h : FR n d
  · rw [if_pos h, if_pos h, ← flQ_div n d h.1]
    have I1 := Lib.hid (fun W => fis_yes n d W h)
    have F := Lib.hid (fun W => floor2_ok n d W (fr_dvb h) (fr_in h).1 (fr_in h).2)
    clear h
    generalize flQ n d = q at *
    generalize flR n d = r at *
    go_enter Try.func9, Try.ntmps9
    go_upto_region 1 with fail
    have hbx := below_new1 w (.cells #[.int .i64 n, .int .i64 d] 23)
    have zx : (w.alloc (.cells #[.int .i64 n, .int .i64 d] 23)).heap.size = w.heap.size + 1 := by simp
    have HB := Lib.hid hbx
    have kx := Lib.hid (Lok.new w 23 #[.int .i64 n, .int .i64 d])
    clear hbx
    generalize w.alloc (.cells #[.int .i64 n, .int .i64 d] 23) = Vx at *
    clear zx
    have x0 := kx.out.cell (i := 0) rfl
    have x1 := kx.out.cell (i := 1) rfl
    go_wp2_with fail
    clear x0 x1
    (((with_reducible refine (I1.out _).mono ?_); rintro e w1 ⟨rfl, hb1⟩); replace HB := Lib.hid (HB.out.trans (hb1.mono HB.out.size)); replace kx := Lib.hid (kx.out.keep hb1); clear hb1)
    have x0 := kx.out.cell (i := 0) rfl
    have x1 := kx.out.cell (i := 1) rfl
    go_wp2_with fail
    clear x0 x1
    (((with_reducible refine (F.out _).mono ?_); rintro e w2 ⟨rfl, hb2⟩); replace HB := Lib.hid (HB.out.trans (hb2.mono HB.out.size)); clear hb2)
    go_wp2
    go_ret2
    exact ⟨rfl, HB.out⟩
  · rw [if_neg h, if_neg h]
    have I1 := Lib.hid (fun W => fis_no n d W h)
    clear h
    go_enter Try.func9, Try.ntmps9
    go_upto_region 1 with fail
    have hbx := below_new1 w (.cells #[.int .i64 n, .int .i64 d] 23)
    have zx : (w.alloc (.cells #[.int .i64 n, .int .i64 d] 23)).heap.size = w.heap.size + 1 := by simp
    have HB := Lib.hid hbx
    have kx := Lib.hid (Lok.new w 23 #[.int .i64 n, .int .i64 d])
    clear hbx
    generalize w.alloc (.cells #[.int .i64 n, .int .i64 d] 23) = Vx at *
    clear zx
    have x0 := kx.out.cell (i := 0) rfl
    have x1 := kx.out.cell (i := 1) rfl
    go_wp2_with fail
    clear x0 x1
    (((with_reducible refine (I1.out _).mono ?_); rintro e w1 ⟨rfl, hb1⟩); replace HB := Lib.hid (HB.out.trans (hb1.mono HB.out.size)); clear hb1)
    go_wp2
    go_ret2
    exact ⟨rfl, HB.out⟩

/-! Reduce. -/
def gcF (n d : Int) : Int := Nat.gcd n.natAbs d.natAbs
def rdN (n d : Int) : Int := if FR n d then n.tdiv (gcF n d) else 0
def rdD (n d : Int) : Int := if FR n d then d.tdiv (gcF n d) else 0
theorem gcF_bd {n d : Int} (h : FR n d) : 1 ≤ gcF n d ∧ gcF n d ≤ d := by
  have p : 0 < d.natAbs := by have := h.1; omega
  have q := Nat.gcd_pos_of_pos_right n.natAbs p
  have r := Nat.gcd_le_right n.natAbs p
  unfold gcF
  have := h.1
  omega
theorem gP_pair {n d : Int} (h : FR n d) : gP [n, d] = gcF n d ∧ gX [n, d] = 0 := by
  have b := gcF_bd h
  have e : gcdL [n, d] = Nat.gcd n.natAbs d.natAbs := by simp [gcdL]
  have := h.2.1
  unfold gP gX
  rw [e]
  unfold gcF at b ⊢
  rw [if_neg (by omega), if_neg (by omega)]
  exact ⟨rfl, rfl⟩
theorem td_le (x g : Int) : (x.tdiv g).natAbs ≤ x.natAbs := by
  rw [Int.natAbs_tdiv]
  exact Nat.div_le_self _ _
theorem rowL_two {W : World} {g : Nat} {T : TypeId} {x y : Int} (h : Lok W g T #[.int .i64 x, .int .i64 y]) : RowL W (some ⟨g, 0, none⟩) [x, y] 2 :=
  ⟨by simp, .inr ⟨g, 0, rfl, h.lt, fun i hi => by
    match i, hi with
    | 0, _ => exact h.cell (i := 0) rfl
    | 1, _ => exact h.cell (i := 1) rfl⟩⟩
theorem gcd_two (x y : Int) (g : Nat) (T : TypeId) (W : World) (h : FR x y) (k : Lok W g T #[.int .i64 x, .int .i64 y]) :
    Calls Try.prog 25 #[.slice (some ⟨g, 0, none⟩) 2 2] W fun e w' => e = .returned (.tuple #[.int .i64 (gcF x y), .int .i64 0]) ∧ Below W.heap.size W w' := by
  have q := gcd_any (some ⟨g, 0, none⟩) [x, y] 2 W (rowL_two k) (fun z hz => by
    simp at hz
    rcases hz with rfl | rfl
    · exact (fr_in h).1
    · exact (fr_in h).2) (by omega)
  rw [(gP_pair h).1, (gP_pair h).2] at q
  exact q

set_option maxRecDepth 100000 in
set_option maxHeartbeats 2000000 in
theorem reduce_any (n d : Int) (w : World) :
    Calls Try.prog 11 #[.agg #[.int .i64 n, .int .i64 d]] w fun e w' => e = .returned (.tuple #[.agg #[.int .i64 (rdN n d), .int .i64 (rdD n d)], .int .i64 (erF n d)]) ∧ Below w.heap.size w w' := by
  unfold rdN rdD erF
  by_cases h : FR n d
  · rw [if_pos h, if_pos h, if_pos h]
    have I1 := Lib.hid (fun W => fis_yes n d W h)
    have G := Lib.hid (fun W g T k => gcd_two n d g T W h k)
    obtain ⟨g1, g2⟩ := gcF_bd h
    have b1 := td_le n (gcF n d)
    have b2 := td_le d (gcF n d)
    have q1 : -9223372036854775808 ≤ n.tdiv (gcF n d) := by unfold FR at h; omega
    have q2 : n.tdiv (gcF n d) ≤ 9223372036854775807 := by unfold FR at h; omega
    have q3 : -9223372036854775808 ≤ d.tdiv (gcF n d) := by unfold FR at h; omega
    have q4 : d.tdiv (gcF n d) ≤ 9223372036854775807 := by unfold FR at h; omega
    have q5 : ¬ gcF n d = 0 := by omega
    have q6 : ¬ gcF n d = -1 := by omega
    clear h b1 b2 g1 g2
    generalize gcF n d = g at *
    go_enter Try.func11, Try.ntmps11
    go_upto_region 1 with fail
    have hbx := below_new1 w (.cells #[.int .i64 n, .int .i64 d] 23)
    have zx : (w.alloc (.cells #[.int .i64 n, .int .i64 d] 23)).heap.size = w.heap.size + 1 := by simp
    have HB := Lib.hid hbx
    have kx := Lib.hid (Lok.new w 23 #[.int .i64 n, .int .i64 d])
    clear hbx
    generalize w.alloc (.cells #[.int .i64 n, .int .i64 d] 23) = Vx at *
    have hby := below_new1 Vx (.cells #[.int .i64 0, .int .i64 0] 23)
    replace kx := Lib.hid (kx.out.keep hby)
    have zy : (Vx.alloc (.cells #[.int .i64 0, .int .i64 0] 23)).heap.size = Vx.heap.size + 1 := by simp
    replace HB := Lib.hid (HB.out.trans (hby.mono HB.out.size))
    have ky := Lib.hid (Lok.new Vx 23 #[.int .i64 0, .int .i64 0])
    clear hby
    generalize Vx.alloc (.cells #[.int .i64 0, .int .i64 0] 23) = Vy at *
    rw [zx] at ky
    clear zx zy
    have x0 := kx.out.cell (i := 0) rfl
    have x1 := kx.out.cell (i := 1) rfl
    go_wp2_with fail
    clear x0 x1
    (((with_reducible refine (I1.out _).mono ?_); rintro e w1 ⟨rfl, hb1⟩); replace HB := Lib.hid (HB.out.trans (hb1.mono HB.out.size)); replace kx := Lib.hid (kx.out.keep hb1); replace ky := Lib.hid (ky.out.keep hb1); clear hb1)
    have x0 := kx.out.cell (i := 0) rfl
    have x1 := kx.out.cell (i := 1) rfl
    go_wp2_with fail
    clear x0 x1
    have hbr := below_new1 w1 (.cells #[.int .i64 n, .int .i64 d] 3)
    replace kx := Lib.hid (kx.out.keep hbr)
    replace ky := Lib.hid (ky.out.keep hbr)
    have zr : (w1.alloc (.cells #[.int .i64 n, .int .i64 d] 3)).heap.size = w1.heap.size + 1 := by simp
    replace HB := Lib.hid (HB.out.trans (hbr.mono HB.out.size))
    have kr := Lib.hid (Lok.new w1 3 #[.int .i64 n, .int .i64 d])
    clear hbr
    generalize w1.alloc (.cells #[.int .i64 n, .int .i64 d] 3) = Vr at *
    clear zr
    generalize w1.heap.size = gr at *
    (((with_reducible refine (G.out _ _ _ kr.out).mono ?_); rintro e w2 ⟨rfl, hb2⟩); replace HB := Lib.hid (HB.out.trans (hb2.mono HB.out.size)); replace kx := Lib.hid (kx.out.keep hb2); replace ky := Lib.hid (ky.out.keep hb2); clear hb2)
    have x0 := kx.out.cell (i := 0) rfl
    have x1 := kx.out.cell (i := 1) rfl
    have y0 := ky.out.cell (i := 0) rfl
    have y1 := ky.out.cell (i := 1) rfl
    have f0 := ky.out.frozen 0
    have f1 := ky.out.frozen 1
    have hz := HB.out.size
    clear kr kx ky
    go_wp2_with fail
    go_region
    go_wp2
    exact bodyPost_ret (v := .tuple #[.agg #[.int .i64 (n.tdiv g), .int .i64 (d.tdiv g)], .int .i64 0]) (by simp [results, Try.results11, go_sem, y0, y1]) rfl ⟨rfl, below_drewN ((HB.out.setCell (by simp) _).setCell (by simp) _) 1⟩
  · rw [if_neg h, if_neg h, if_neg h]
    have I1 := Lib.hid (fun W => fis_no n d W h)
    clear h
    go_enter Try.func11, Try.ntmps11
    go_upto_region 1 with fail
    have hbx := below_new1 w (.cells #[.int .i64 n, .int .i64 d] 23)
    have zx : (w.alloc (.cells #[.int .i64 n, .int .i64 d] 23)).heap.size = w.heap.size + 1 := by simp
    have HB := Lib.hid hbx
    have kx := Lib.hid (Lok.new w 23 #[.int .i64 n, .int .i64 d])
    clear hbx
    generalize w.alloc (.cells #[.int .i64 n, .int .i64 d] 23) = Vx at *
    have hby := below_new1 Vx (.cells #[.int .i64 0, .int .i64 0] 23)
    replace kx := Lib.hid (kx.out.keep hby)
    have zy : (Vx.alloc (.cells #[.int .i64 0, .int .i64 0] 23)).heap.size = Vx.heap.size + 1 := by simp
    replace HB := Lib.hid (HB.out.trans (hby.mono HB.out.size))
    have ky := Lib.hid (Lok.new Vx 23 #[.int .i64 0, .int .i64 0])
    clear hby
    generalize Vx.alloc (.cells #[.int .i64 0, .int .i64 0] 23) = Vy at *
    rw [zx] at ky
    clear zx zy
    have x0 := kx.out.cell (i := 0) rfl
    have x1 := kx.out.cell (i := 1) rfl
    go_wp2_with fail
    clear x0 x1
    (((with_reducible refine (I1.out _).mono ?_); rintro e w1 ⟨rfl, hb1⟩); replace HB := Lib.hid (HB.out.trans (hb1.mono HB.out.size)); replace ky := Lib.hid (ky.out.keep hb1); clear hb1)
    have y0 := ky.out.cell (i := 0) rfl
    have y1 := ky.out.cell (i := 1) rfl
    have f0 := ky.out.frozen 0
    have f1 := ky.out.frozen 1
    have hz := HB.out.size
    go_wp2
    exact bodyPost_ret (v := .tuple #[.agg #[.int .i64 0, .int .i64 0], .int .i64 1]) (by simp [results, Try.results11, go_sem, y0, y1]) rfl ⟨rfl, (HB.out.setCell (by simp) _).setCell (by simp) _⟩
end Go.Proofs.Ytbcbocnblkepcaa
