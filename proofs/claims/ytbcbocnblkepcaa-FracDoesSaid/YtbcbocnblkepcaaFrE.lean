/-
  The laws of package frac: the rows that they share; FracFloor, FracOrder, FracReduced: their walks.
-/
import Derived.Test.YtbcbocnblkepcaaFrD
import Derived.Test.YtbcbocnblkepcaaFrR
namespace Go.Proofs.Ytbcbocnblkepcaa
open Go.RowKit

/-- A row of pairs that lies in a block of the call's own. -/
def pairs (l : List Int) (i j : Nat) : Int := l.getD (i * 2 + j) 0
theorem rowK_of_lok {W : World} {g n : Nat} {T : TypeId} {l : List Int} (h : Lok W g T (l.map fun x => Value.int .i64 x).toArray) (hl : l.length = 2 * n) : RowK W (some ⟨g, 0, none⟩) n 2 (pairs l) := by
  refine .inr ⟨g, 0, rfl, h.lt, fun i hi j hj => ?_⟩
  rw [Nat.zero_add]
  refine h.cell ?_
  have q : i * 2 + j < l.length := by omega
  unfold pairs
  simp [List.getD, q]

theorem sF (W : World) : Calls Try.prog 9 #[.agg #[.int .i64 (-7), .int .i64 2]] W fun e w' => e = .returned (.tuple #[.int .i64 (-4), .int .i64 0]) ∧ Below W.heap.size W w' := by
  have h := ffloor_any (-7) 2 W
  rw [show flF (-7) 2 = -4 from by decide, show erF (-7) 2 = 0 from by decide] at h
  exact h
theorem sR1 (W : World) : Calls Try.prog 11 #[.agg #[.int .i64 (-6), .int .i64 4]] W fun e w' => e = .returned (.tuple #[.agg #[.int .i64 (-3), .int .i64 2], .int .i64 0]) ∧ Below W.heap.size W w' := by
  have h := reduce_any (-6) 4 W
  rw [show rdN (-6) 4 = -3 from by decide, show rdD (-6) 4 = 2 from by decide, show erF (-6) 4 = 0 from by decide] at h
  exact h
theorem sR2 (W : World) : Calls Try.prog 11 #[.agg #[.int .i64 6, .int .i64 0]] W fun e w' => e = .returned (.tuple #[.agg #[.int .i64 0, .int .i64 0], .int .i64 1]) ∧ Below W.heap.size W w' := by
  have h := reduce_any 6 0 W
  rw [show rdN 6 0 = 0 from by decide, show rdD 6 0 = 0 from by decide, show erF 6 0 = 1 from by decide] at h
  exact h
theorem sL (g : Nat) (T : TypeId) (W : World) (h : Lok W g T #[.int .i64 1, .int .i64 2, .int .i64 1, .int .i64 3, .int .i64 2, .int .i64 6]) :
    Calls Try.prog 13 #[.slice (some ⟨g, 0, none⟩) 3 3] W fun e w' => e = .returned (.tuple #[.int .i64 1, .bool true]) ∧ Below W.heap.size W w' := by
  have q := least_any (some ⟨g, 0, none⟩) 3 3 (pairs [1, 2, 1, 3, 2, 6]) W (rowK_of_lok (l := [1, 2, 1, 3, 2, 6]) h rfl) (by omega)
  rw [show lsF (pairs [1, 2, 1, 3, 2, 6]) 3 = 1 from by decide] at q
  exact q
theorem sC1 (W : World) : Calls Try.prog 21 #[.agg #[.int .i64 1, .int .i64 3], .agg #[.int .i64 2, .int .i64 6]] W fun e w' => e = .returned (.int .i64 0) ∧ Below W.heap.size W w' := by
  have h := fcmp_any 1 3 2 6 W
  rw [show cmpF 1 3 2 6 = 0 from by decide] at h
  exact h
theorem sC2 (W : World) : Calls Try.prog 21 #[.agg #[.int .i64 (-1), .int .i64 2], .agg #[.int .i64 (-1), .int .i64 3]] W fun e w' => e = .returned (.int .i64 (-1)) ∧ Below W.heap.size W w' := by
  have h := fcmp_any (-1) 2 (-1) 3 W
  rw [show cmpF (-1) 2 (-1) 3 = -1 from by decide] at h
  exact h

set_option maxRecDepth 100000 in
set_option maxHeartbeats 4000000 in
theorem fshared_any (w : World) :
    Calls Try.prog 18 #[] w fun e w' => e = .returned (.bool true) ∧ Below w.heap.size w w' := by
  have HB := Lib.hid (Below.refl w.heap.size w)
  go_enter Try.func18, Try.ntmps18
  go_wp2_with fail
  (((with_reducible refine (sF _).mono ?_); rintro e w1 ⟨rfl, hb1⟩); replace HB := Lib.hid (HB.out.trans (hb1.mono HB.out.size)); clear hb1)
  go_wp2_with fail
  ((with_reducible refine (sR1 _).mono ?_); rintro e w2 ⟨rfl, hb2⟩)
  replace HB := Lib.hid (HB.out.trans (hb2.mono HB.out.size))
  clear hb2
  go_wp2_with fail
  have hb2 := below_new1 w2 (.cells #[.int .i64 (-3), .int .i64 2] 23)
  replace HB := Lib.hid (HB.out.trans (hb2.mono HB.out.size))
  have k2 := Lib.hid (Lok.new w2 23 #[.int .i64 (-3), .int .i64 2])
  clear hb2
  generalize w2.alloc (.cells #[.int .i64 (-3), .int .i64 2] 23) = V2 at *
  generalize w2.heap.size = g2 at *
  go_wp2_with fail
  ((with_reducible refine (sR2 _).mono ?_); rintro e w3 ⟨rfl, hb3⟩)
  replace HB := Lib.hid (HB.out.trans (hb3.mono HB.out.size))
  replace k2 := Lib.hid (k2.out.keep hb3)
  clear hb3
  skip
  go_wp2_with fail
  have z3 : (w3.alloc (.cells #[.int .i64 0, .int .i64 0] 23)).heap.size = w3.heap.size + 1 := by simp
  have hb3 := below_new1 w3 (.cells #[.int .i64 0, .int .i64 0] 23)
  replace HB := Lib.hid (HB.out.trans (hb3.mono HB.out.size))
  replace k2 := Lib.hid (k2.out.keep hb3)
  have k3 := Lib.hid (Lok.new w3 23 #[.int .i64 0, .int .i64 0])
  clear hb3
  generalize w3.alloc (.cells #[.int .i64 0, .int .i64 0] 23) = V3 at *
  generalize w3.heap.size = g3 at *
  go_wp2_with fail
  have hbr := below_new1 V3 (.cells #[.int .i64 1, .int .i64 2, .int .i64 1, .int .i64 3, .int .i64 2, .int .i64 6] 23)
  replace k2 := Lib.hid (k2.out.keep hbr)
  replace k3 := Lib.hid (k3.out.keep hbr)
  have zr : (V3.alloc (.cells #[.int .i64 1, .int .i64 2, .int .i64 1, .int .i64 3, .int .i64 2, .int .i64 6] 23)).heap.size = V3.heap.size + 1 := by simp
  replace HB := Lib.hid (HB.out.trans (hbr.mono HB.out.size))
  have kr := Lib.hid (Lok.new V3 23 #[.int .i64 1, .int .i64 2, .int .i64 1, .int .i64 3, .int .i64 2, .int .i64 6])
  clear hbr
  generalize V3.alloc (.cells #[.int .i64 1, .int .i64 2, .int .i64 1, .int .i64 3, .int .i64 2, .int .i64 6] 23) = Vr at *
  rw [z3] at kr
  clear z3 zr
  generalize g3 + 1 = gr at *
  (((with_reducible refine (sL _ _ _ kr.out).mono ?_); rintro e w4 ⟨rfl, hb4⟩); replace HB := Lib.hid (HB.out.trans (hb4.mono HB.out.size)); replace k2 := Lib.hid (k2.out.keep hb4); replace k3 := Lib.hid (k3.out.keep hb4); clear hb4)
  clear kr
  go_wp2_with fail
  (((with_reducible refine (sC1 _).mono ?_); rintro e w5 ⟨rfl, hb5⟩); replace HB := Lib.hid (HB.out.trans (hb5.mono HB.out.size)); replace k2 := Lib.hid (k2.out.keep hb5); replace k3 := Lib.hid (k3.out.keep hb5); clear hb5)
  go_wp2_with fail
  (((with_reducible refine (sC2 _).mono ?_); rintro e w6 ⟨rfl, hb6⟩); replace HB := Lib.hid (HB.out.trans (hb6.mono HB.out.size)); replace k2 := Lib.hid (k2.out.keep hb6); replace k3 := Lib.hid (k3.out.keep hb6); clear hb6)
  have a0 := k2.out.cell (i := 0) rfl
  have a1 := k2.out.cell (i := 1) rfl
  go_wp2_with fail
  clear a0 a1
  (((with_reducible refine (fis_yes (-3) 2 _ (by unfold FR; omega)).mono ?_); rintro e w7 ⟨rfl, hb7⟩); replace HB := Lib.hid (HB.out.trans (hb7.mono HB.out.size)); clear hb7)
  go_wp2
  go_ret
  exact ⟨rfl, HB.out⟩

set_option maxRecDepth 100000 in
set_option maxHeartbeats 4000000 in
theorem law_ffloor (n d : Int) (w : World) :
    Calls Try.prog 6 #[.agg #[.int .i64 n, .int .i64 d]] w fun e w' => e = .returned (.bool true) ∧ Below w.heap.size w w' := by
  have HB := Lib.hid (Below.refl w.heap.size w)
  have F := Lib.hid (fun W => ffloor_any n d W)
  by_cases h : FR n d
  · obtain ⟨r, lo⟩ := flF_low h
    have hi := flF_high h
    rw [show erF n d = 0 from if_pos h] at F
    have C1 := Lib.hid (fun W => fcmp_any (flF n d) 1 n d W)
    have C2 := Lib.hid (fun W => fcmp_any n d (flF n d + 1) 1 W)
    unfold FR at r
    obtain ⟨-, -, r1, r2⟩ := r
    clear h
    generalize flF n d = q at *
    generalize cmpF q 1 n d = x at *
    generalize cmpF n d (q + 1) 1 = y at *
    have d1 : decide (q < -1000000000000000000) = false := decide_eq_false (by omega)
    have d2 : decide (1000000000000000000 < q) = false := decide_eq_false (by omega)
    have d3 : decide (0 < x) = false := decide_eq_false lo
    by_cases k : q = 1000000000000000000
    · subst k
      clear hi lo
      go_enter Try.func6, Try.ntmps6
      go_upto_region 1 with fail
      have hbx := below_new1 w (.cells #[.int .i64 n, .int .i64 d] 23)
      have zx : (w.alloc (.cells #[.int .i64 n, .int .i64 d] 23)).heap.size = w.heap.size + 1 := by simp
      have HB := Lib.hid hbx
      have kx := Lib.hid (Lok.new w 23 #[.int .i64 n, .int .i64 d])
      clear hbx
      generalize w.alloc (.cells #[.int .i64 n, .int .i64 d] 23) = Vx at *
      clear zx
      have x0 := kx.out.cell (i := 0) rfl
      have x1 := kx.out.cell (i := 1) rfl
      go_wp2_with fail
      clear x0 x1
      (((with_reducible refine (F.out _).mono ?_); rintro e w1 ⟨rfl, hb1⟩); replace HB := Lib.hid (HB.out.trans (hb1.mono HB.out.size)); replace kx := Lib.hid (kx.out.keep hb1); clear hb1)
      have x0 := kx.out.cell (i := 0) rfl
      have x1 := kx.out.cell (i := 1) rfl
      go_wp2_with fail
      clear x0 x1
      (((with_reducible refine (C1.out _).mono ?_); rintro e w2 ⟨rfl, hb2⟩); replace HB := Lib.hid (HB.out.trans (hb2.mono HB.out.size)); replace kx := Lib.hid (kx.out.keep hb2); clear hb2)
      go_wp2_with fail
      (((with_reducible refine (fshared_any _).mono ?_); rintro e w3 ⟨rfl, hb3⟩); replace HB := Lib.hid (HB.out.trans (hb3.mono HB.out.size)); replace kx := Lib.hid (kx.out.keep hb3); clear hb3)
      have x0 := kx.out.cell (i := 0) rfl
      have x1 := kx.out.cell (i := 1) rfl
      go_wp2
      go_ret
      exact ⟨rfl, HB.out⟩
    · have d4 : (q == 1000000000000000000) = false := by rw [beq_eq_false_iff_ne]; exact k
      have d5 : decide (y < 0) = true := decide_eq_true (hi k)
      have r3 : q + 1 ≤ 9223372036854775807 := by omega
      clear hi lo
      go_enter Try.func6, Try.ntmps6
      go_upto_region 1 with fail
      have hbx := below_new1 w (.cells #[.int .i64 n, .int .i64 d] 23)
      have zx : (w.alloc (.cells #[.int .i64 n, .int .i64 d] 23)).heap.size = w.heap.size + 1 := by simp
      have HB := Lib.hid hbx
      have kx := Lib.hid (Lok.new w 23 #[.int .i64 n, .int .i64 d])
      clear hbx
      generalize w.alloc (.cells #[.int .i64 n, .int .i64 d] 23) = Vx at *
      clear zx
      have x0 := kx.out.cell (i := 0) rfl
      have x1 := kx.out.cell (i := 1) rfl
      go_wp2_with fail
      clear x0 x1
      (((with_reducible refine (F.out _).mono ?_); rintro e w1 ⟨rfl, hb1⟩); replace HB := Lib.hid (HB.out.trans (hb1.mono HB.out.size)); replace kx := Lib.hid (kx.out.keep hb1); clear hb1)
      have x0 := kx.out.cell (i := 0) rfl
      have x1 := kx.out.cell (i := 1) rfl
      go_wp2_with fail
      clear x0 x1
      (((with_reducible refine (C1.out _).mono ?_); rintro e w2 ⟨rfl, hb2⟩); replace HB := Lib.hid (HB.out.trans (hb2.mono HB.out.size)); replace kx := Lib.hid (kx.out.keep hb2); clear hb2)
      go_wp2_with fail
      (((with_reducible refine (fshared_any _).mono ?_); rintro e w3 ⟨rfl, hb3⟩); replace HB := Lib.hid (HB.out.trans (hb3.mono HB.out.size)); replace kx := Lib.hid (kx.out.keep hb3); clear hb3)
      have x0 := kx.out.cell (i := 0) rfl
      have x1 := kx.out.cell (i := 1) rfl
      go_wp2_with fail
      clear x0 x1
      (((with_reducible refine (C2.out _).mono ?_); rintro e w4 ⟨rfl, hb4⟩); replace HB := Lib.hid (HB.out.trans (hb4.mono HB.out.size)); clear hb4)
      go_wp2
      go_ret
      exact ⟨rfl, HB.out⟩
  · rw [show erF n d = 1 from if_neg h, show flF n d = 0 from if_neg h] at F
    have I := Lib.hid (fun W => fis_no n d W h)
    clear h
    go_enter Try.func6, Try.ntmps6
    go_upto_region 1 with fail
    have hbx := below_new1 w (.cells #[.int .i64 n, .int .i64 d] 23)
    have zx : (w.alloc (.cells #[.int .i64 n, .int .i64 d] 23)).heap.size = w.heap.size + 1 := by simp
    have HB := Lib.hid hbx
    have kx := Lib.hid (Lok.new w 23 #[.int .i64 n, .int .i64 d])
    clear hbx
    generalize w.alloc (.cells #[.int .i64 n, .int .i64 d] 23) = Vx at *
    clear zx
    have x0 := kx.out.cell (i := 0) rfl
    have x1 := kx.out.cell (i := 1) rfl
    go_wp2_with fail
    clear x0 x1
    (((with_reducible refine (F.out _).mono ?_); rintro e w1 ⟨rfl, hb1⟩); replace HB := Lib.hid (HB.out.trans (hb1.mono HB.out.size)); replace kx := Lib.hid (kx.out.keep hb1); clear hb1)
    go_wp2_with fail
    (((with_reducible refine (fshared_any _).mono ?_); rintro e w2 ⟨rfl, hb2⟩); replace HB := Lib.hid (HB.out.trans (hb2.mono HB.out.size)); replace kx := Lib.hid (kx.out.keep hb2); clear hb2)
    have x0 := kx.out.cell (i := 0) rfl
    have x1 := kx.out.cell (i := 1) rfl
    go_wp2_with fail
    clear x0 x1
    (((with_reducible refine (I.out _).mono ?_); rintro e w3 ⟨rfl, hb3⟩); replace HB := Lib.hid (HB.out.trans (hb3.mono HB.out.size)); clear hb3)
    go_wp2
    go_ret
    exact ⟨rfl, HB.out⟩
end Go.Proofs.Ytbcbocnblkepcaa
