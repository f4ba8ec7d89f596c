/-
  Contracts of the reference of package frac: Is, order, Floor, Reduce.
-/
import Derived.Test.YtbcbocnblkepcaaFrC
import Derived.Test.YtbcbocnblkepcaaWhB
import Derived.Test.YtbcbocnblkepcaaWhE
namespace Go.Proofs.Ytbcbocnblkepcaa
open Go.RowKit

set_option maxHeartbeats 400000 in
theorem ris_f_yes (n d : Int) (w : World) (h : FR n d) :
    Calls Try.prog 20 #[.agg #[.int .i64 n, .int .i64 d]] w fun e w' => e = .returned (.bool true) ∧ Below w.heap.size w w' := by
  obtain ⟨c1, c2, c3, c4⟩ := h
  go_enter Try.func20, Try.ntmps20
  go_wp2
  go_ret
  exact ⟨rfl, (Below.refl _ _).alloc (Nat.le_refl _) _⟩
set_option maxHeartbeats 400000 in
theorem ris_f_no (n d : Int) (w : World) (h : ¬ FR n d) :
    Calls Try.prog 20 #[.agg #[.int .i64 n, .int .i64 d]] w fun e w' => e = .returned (.bool false) ∧ Below w.heap.size w w' := by
  unfold FR at h
  by_cases c1 : 1 ≤ d
  · by_cases c2 : d ≤ 1000000000000000000
    · by_cases c3 : -1000000000000000000 ≤ n
      · by_cases c4 : n ≤ 1000000000000000000
        · exact absurd ⟨c1, c2, c3, c4⟩ h
        · clear h
          have d4 : decide (n ≤ 1000000000000000000) = false := by simpa using c4
          go_enter Try.func20, Try.ntmps20
          go_wp2
          go_ret
          exact ⟨rfl, (Below.refl _ _).alloc (Nat.le_refl _) _⟩
      · clear h
        have d3 : decide (-1000000000000000000 ≤ n) = false := by simpa using c3
        go_enter Try.func20, Try.ntmps20
        go_wp2
        go_ret
        exact ⟨rfl, (Below.refl _ _).alloc (Nat.le_refl _) _⟩
    · clear h
      have d2 : decide (d ≤ 1000000000000000000) = false := by simpa using c2
      go_enter Try.func20, Try.ntmps20
      go_wp2
      go_ret
      exact ⟨rfl, (Below.refl _ _).alloc (Nat.le_refl _) _⟩
  · clear h
    have d1 : decide (1 ≤ d) = false := by simpa using c1
    go_enter Try.func20, Try.ntmps20
    go_wp2
    go_ret
    exact ⟨rfl, (Below.refl _ _).alloc (Nat.le_refl _) _⟩
theorem ris_f_any (n d : Int) (w : World) :
    Calls Try.prog 20 #[.agg #[.int .i64 n, .int .i64 d]] w fun e w' => e = .returned (.bool (isF n d)) ∧ Below w.heap.size w w' := by
  unfold isF
  by_cases h : FR n d
  · rw [decide_eq_true h]; exact ris_f_yes n d w h
  · rw [decide_eq_false h]; exact ris_f_no n d w h
theorem rorder_any (x y : Int) (w : World) :
    Calls Try.prog 36 #[.int .i64 x, .int .i64 y] w fun e w' => e = .returned (.int .i64 (ordI x y)) ∧ Below w.heap.size w w' := by
  rcases ordI_ways x y with ⟨h, e⟩ | ⟨h, e⟩ | ⟨h, e⟩ <;> rw [e] <;> clear e
  · have d1 : decide (x < y) = true := decide_eq_true h
    go_enter Try.func36, Try.ntmps36
    go_wp2
    go_ret
    exact ⟨rfl, by (repeat (first | exact Below.refl _ _ | assumption | refine Below.drew ?_ | refine below_drewN ?_ _ | refine Below.setCell ?_ (by first | omega | (simp; done) | (simp; omega)) _ | refine Below.alloc ?_ (by first | omega | (simp; done) | (simp; omega)) _))⟩
  · have d1 : decide (x < y) = false := decide_eq_false (by omega)
    have d2 : decide (y < x) = false := decide_eq_false (by omega)
    go_enter Try.func36, Try.ntmps36
    go_wp2
    go_ret
    exact ⟨rfl, by (repeat (first | exact Below.refl _ _ | assumption | refine Below.drew ?_ | refine below_drewN ?_ _ | refine Below.setCell ?_ (by first | omega | (simp; done) | (simp; omega)) _ | refine Below.alloc ?_ (by first | omega | (simp; done) | (simp; omega)) _))⟩
  · have d1 : decide (x < y) = false := decide_eq_false (by omega)
    have d2 : decide (y < x) = true := decide_eq_true h
    go_enter Try.func36, Try.ntmps36
    go_wp2
    go_ret
    exact ⟨rfl, by (repeat (first | exact Below.refl _ _ | assumption | refine Below.drew ?_ | refine below_drewN ?_ _ | refine Below.setCell ?_ (by first | omega | (simp; done) | (simp; omega)) _ | refine Below.alloc ?_ (by first | omega | (simp; done) | (simp; omega)) _))⟩
set_option maxHeartbeats 1000000 in
theorem rffloor_any (n d : Int) (w : World) :
    Calls Try.prog 10 #[.agg #[.int .i64 n, .int .i64 d]] w fun e w' => e = .returned (.tuple #[.int .i64 (flF n d), .int .i64 (erF n d)]) ∧ Below w.heap.size w w' := by
  unfold flF erF
  by_cases h : FR n d
  · rw [if_pos h, if_pos h, ← flQ_div n d h.1]
    have I1 := Lib.hid (fun W => ris_f_yes n d W h)
    have F := Lib.hid (fun W => rfloor_ok n d W (fr_dvb h) (fr_in h).1 (fr_in h).2)
    clear h
    generalize flQ n d = q at *
    generalize flR n d = r at *
    go_enter Try.func10, Try.ntmps10
    go_upto_region 1 with fail
    have hbx := below_new1 w (.cells #[.int .i64 n, .int .i64 d] 23)
    have zx : (w.alloc (.cells #[.int .i64 n, .int .i64 d] 23)).heap.size = w.heap.size + 1 := by simp
    have HB := Lib.hid hbx
    have kx := Lib.hid (Lok.new w 23 #[.int .i64 n, .int .i64 d])
    clear hbx
    generalize w.alloc (.cells #[.int .i64 n, .int .i64 d] 23) = Vx at *
    clear zx
    have x0 := kx.out.cell (i := 0) rfl
    have x1 := kx.out.cell (i := 1) rfl
    go_wp2_with fail
    clear x0 x1
    (((with_reducible refine (I1.out _).mono ?_); rintro e w1 ⟨rfl, hb1⟩); replace HB := Lib.hid (HB.out.trans (hb1.mono HB.out.size)); replace kx := Lib.hid (kx.out.keep hb1); clear hb1)
    have x0 := kx.out.cell (i := 0) rfl
    have x1 := kx.out.cell (i := 1) rfl
    go_wp2_with fail
    clear x0 x1
    (((with_reducible refine (F.out _).mono ?_); rintro e w2 ⟨rfl, hb2⟩); replace HB := Lib.hid (HB.out.trans (hb2.mono HB.out.size)); clear hb2)
    go_wp2
    go_ret2
    exact ⟨rfl, HB.out⟩
  · rw [if_neg h, if_neg h]
    have I1 := Lib.hid (fun W => ris_f_no n d W h)
    clear h
    go_enter Try.func10, Try.ntmps10
    go_upto_region 1 with fail
    have hbx := below_new1 w (.cells #[.int .i64 n, .int .i64 d] 23)
    have zx : (w.alloc (.cells #[.int .i64 n, .int .i64 d] 23)).heap.size = w.heap.size + 1 := by simp
    have HB := Lib.hid hbx
    have kx := Lib.hid (Lok.new w 23 #[.int .i64 n, .int .i64 d])
    clear hbx
    generalize w.alloc (.cells #[.int .i64 n, .int .i64 d] 23) = Vx at *
    clear zx
    have x0 := kx.out.cell (i := 0) rfl
    have x1 := kx.out.cell (i := 1) rfl
    go_wp2_with fail
    clear x0 x1
    (((with_reducible refine (I1.out _).mono ?_); rintro e w1 ⟨rfl, hb1⟩); replace HB := Lib.hid (HB.out.trans (hb1.mono HB.out.size)); clear hb1)
    go_wp2
    go_ret2
    exact ⟨rfl, HB.out⟩

theorem rgcd_two (x y : Int) (g : Nat) (T : TypeId) (W : World) (h : FR x y) (k : Lok W g T #[.int .i64 x, .int .i64 y]) :
    Calls Try.prog 26 #[.slice (some ⟨g, 0, none⟩) 2 2] W fun e w' => e = .returned (.tuple #[.int .i64 (gcF x y), .int .i64 0]) ∧ Below W.heap.size W w' := by
  have q := rgcd_any (some ⟨g, 0, none⟩) [x, y] 2 W (rowL_two k) (fun z hz => by
    simp at hz
    rcases hz with rfl | rfl
    · exact (fr_in h).1
    · exact (fr_in h).2) (by omega)
  rw [(gP_pair h).1, (gP_pair h).2] at q
  exact q

set_option maxRecDepth 100000 in
set_option maxHeartbeats 2000000 in
theorem rreduce_any (n d : Int) (w : World) :
    Calls Try.prog 12 #[.agg #[.int .i64 n, .int .i64 d]] w fun e w' => e = .returned (.tuple #[.agg #[.int .i64 (rdN n d), .int .i64 (rdD n d)], .int .i64 (erF n d)]) ∧ Below w.heap.size w w' := by
  unfold rdN rdD erF
  by_cases h : FR n d
  · rw [if_pos h, if_pos h, if_pos h]
    have I1 := Lib.hid (fun W => ris_f_yes n d W h)
    have G := Lib.hid (fun W g T k => rgcd_two n d g T W h k)
    obtain ⟨g1, g2⟩ := gcF_bd h
    have b1 := td_le n (gcF n d)
    have b2 := td_le d (gcF n d)
    have q1 : -9223372036854775808 ≤ n.tdiv (gcF n d) := by unfold FR at h; omega
    have q2 : n.tdiv (gcF n d) ≤ 9223372036854775807 := by unfold FR at h; omega
    have q3 : -9223372036854775808 ≤ d.tdiv (gcF n d) := by unfold FR at h; omega
    have q4 : d.tdiv (gcF n d) ≤ 9223372036854775807 := by unfold FR at h; omega
    have q5 : ¬ gcF n d = 0 := by omega
    have q6 : ¬ gcF n d = -1 := by omega
    clear h b1 b2 g1 g2
    generalize gcF n d = g at *
    go_enter Try.func12, Try.ntmps12
    go_upto_region 1 with fail
    have hbx := below_new1 w (.cells #[.int .i64 n, .int .i64 d] 23)
    have zx : (w.alloc (.cells #[.int .i64 n, .int .i64 d] 23)).heap.size = w.heap.size + 1 := by simp
    have HB := Lib.hid hbx
    have kx := Lib.hid (Lok.new w 23 #[.int .i64 n, .int .i64 d])
    clear hbx
    generalize w.alloc (.cells #[.int .i64 n, .int .i64 d] 23) = Vx at *
    have hby := below_new1 Vx (.cells #[.int .i64 0, .int .i64 0] 23)
    replace kx := Lib.hid (kx.out.keep hby)
    have zy : (Vx.alloc (.cells #[.int .i64 0, .int .i64 0] 23)).heap.size = Vx.heap.size + 1 := by simp
    replace HB := Lib.hid (HB.out.trans (hby.mono HB.out.size))
    have ky := Lib.hid (Lok.new Vx 23 #[.int .i64 0, .int .i64 0])
    clear hby
    generalize Vx.alloc (.cells #[.int .i64 0, .int .i64 0] 23) = Vy at *
    rw [zx] at ky
    clear zx zy
    have x0 := kx.out.cell (i := 0) rfl
    have x1 := kx.out.cell (i := 1) rfl
    go_wp2_with fail
    clear x0 x1
    (((with_reducible refine (I1.out _).mono ?_); rintro e w1 ⟨rfl, hb1⟩); replace HB := Lib.hid (HB.out.trans (hb1.mono HB.out.size)); replace kx := Lib.hid (kx.out.keep hb1); replace ky := Lib.hid (ky.out.keep hb1); clear hb1)
    have x0 := kx.out.cell (i := 0) rfl
    have x1 := kx.out.cell (i := 1) rfl
    go_wp2_with fail
    clear x0 x1
    have hbr := below_new1 w1 (.cells #[.int .i64 n, .int .i64 d] 3)
    replace kx := Lib.hid (kx.out.keep hbr)
    replace ky := Lib.hid (ky.out.keep hbr)
    have zr : (w1.alloc (.cells #[.int .i64 n, .int .i64 d] 3)).heap.size = w1.heap.size + 1 := by simp
    replace HB := Lib.hid (HB.out.trans (hbr.mono HB.out.size))
    have kr := Lib.hid (Lok.new w1 3 #[.int .i64 n, .int .i64 d])
    clear hbr
    generalize w1.alloc (.cells #[.int .i64 n, .int .i64 d] 3) = Vr at *
    clear zr
    generalize w1.heap.size = gr at *
    (((with_reducible refine (G.out _ _ _ kr.out).mono ?_); rintro e w2 ⟨rfl, hb2⟩); replace HB := Lib.hid (HB.out.trans (hb2.mono HB.out.size)); replace kx := Lib.hid (kx.out.keep hb2); replace ky := Lib.hid (ky.out.keep hb2); clear hb2)
    have x0 := kx.out.cell (i := 0) rfl
    have x1 := kx.out.cell (i := 1) rfl
    have y0 := ky.out.cell (i := 0) rfl
    have y1 := ky.out.cell (i := 1) rfl
    have f0 := ky.out.frozen 0
    have f1 := ky.out.frozen 1
    have hz := HB.out.size
    clear kr kx ky
    go_wp2_with fail
    go_region
    go_wp2
    exact bodyPost_ret (v := .tuple #[.agg #[.int .i64 (n.tdiv g), .int .i64 (d.tdiv g)], .int .i64 0]) (by simp [results, Try.results12, go_sem, y0, y1]) rfl ⟨rfl, below_drewN ((HB.out.setCell (by simp) _).setCell (by simp) _) 1⟩
  · rw [if_neg h, if_neg h, if_neg h]
    have I1 := Lib.hid (fun W => ris_f_no n d W h)
    clear h
    go_enter Try.func12, Try.ntmps12
    go_upto_region 1 with fail
    have hbx := below_new1 w (.cells #[.int .i64 n, .int .i64 d] 23)
    have zx : (w.alloc (.cells #[.int .i64 n, .int .i64 d] 23)).heap.size = w.heap.size + 1 := by simp
    have HB := Lib.hid hbx
    have kx := Lib.hid (Lok.new w 23 #[.int .i64 n, .int .i64 d])
    clear hbx
    generalize w.alloc (.cells #[.int .i64 n, .int .i64 d] 23) = Vx at *
    have hby := below_new1 Vx (.cells #[.int .i64 0, .int .i64 0] 23)
    replace kx := Lib.hid (kx.out.keep hby)
    have zy : (Vx.alloc (.cells #[.int .i64 0, .int .i64 0] 23)).heap.size = Vx.heap.size + 1 := by simp
    replace HB := Lib.hid (HB.out.trans (hby.mono HB.out.size))
    have ky := Lib.hid (Lok.new Vx 23 #[.int .i64 0, .int .i64 0])
    clear hby
    generalize Vx.alloc (.cells #[.int .i64 0, .int .i64 0] 23) = Vy at *
    rw [zx] at ky
    clear zx zy
    have x0 := kx.out.cell (i := 0) rfl
    have x1 := kx.out.cell (i := 1) rfl
    go_wp2_with fail
    clear x0 x1
    (((with_reducible refine (I1.out _).mono ?_); rintro e w1 ⟨rfl, hb1⟩); replace HB := Lib.hid (HB.out.trans (hb1.mono HB.out.size)); replace ky := Lib.hid (ky.out.keep hb1); clear hb1)
    have y0 := ky.out.cell (i := 0) rfl
    have y1 := ky.out.cell (i := 1) rfl
    have f0 := ky.out.frozen 0
    have f1 := ky.out.frozen 1
    have hz := HB.out.size
    go_wp2
    exact bodyPost_ret (v := .tuple #[.agg #[.int .i64 0, .int .i64 0], .int .i64 1]) (by simp [results, Try.results12, go_sem, y0, y1]) rfl ⟨rfl, (HB.out.setCell (by simp) _).setCell (by simp) _⟩
end Go.Proofs.Ytbcbocnblkepcaa
