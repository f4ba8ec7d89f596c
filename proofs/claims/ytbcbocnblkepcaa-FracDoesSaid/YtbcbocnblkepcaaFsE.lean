/-
  The law FracDoes: its walk.
-/
import Derived.Test.YtbcbocnblkepcaaFsD
import Derived.Test.YtbcbocnblkepcaaSoH
import Derived.Test.YtbcbocnblkepcaaFrE
namespace Go.Proofs.Ytbcbocnblkepcaa
open Go.RowKit

theorem RowK.congr {W : World} {a : Option Addr} {n k : Nat} {F G : Nat → Nat → Int} (h : RowK W a n k F) (e : ∀ t, t < n → ∀ j, j < k → F t j = G t j) : RowK W a n k G := by
  rcases h with h | ⟨b, off, ha, hl, h⟩
  · exact .inl h
  · exact .inr ⟨b, off, ha, hl, fun i hi j hj => by rw [← e i hi j hj]; exact h i hi j hj⟩
/-- The first of a pair put. -/
theorem RowG.put0 {W : World} {g n : Nat} {G : Nat → Nat → Int} (h : RowG W g n G) {i : Nat} (hi : i < n) (x : Int) :
    RowG (W.setCell ⟨g, i * 2, none⟩ (.int .i64 x)) g n (fun k j => if k = i ∧ j = 0 then x else G k j) where
  lt := Nat.lt_of_lt_of_le h.lt ((Below.refl 0 W).setCell (p := ⟨g, i * 2, none⟩) (Nat.zero_le _) (.int .i64 x)).size
  cell := fun k hk j hj => by
    by_cases e : k = i ∧ j = 0
    · obtain ⟨rfl, rfl⟩ := e
      simp only [and_self, if_true]
      exact cell_set_same (h.cell k hi 0 (by omega))
    · simp only [e, if_false]
      exact cell_set_other (h.cell k hk j hj) (by omega)
  frz := fun o => by rw [World.frozen?_setCell]; exact h.frz o
theorem law_fdoes_long (A : Option Addr) (n c : Nat) (an ad bn bd : Int) (w : World) (hn : 30 < n) (hl : n ≤ 9223372036854775807) :
    Calls Try.prog 3 #[.agg #[.int .i64 an, .int .i64 ad], .agg #[.int .i64 bn, .int .i64 bd], .slice A n c] w fun e w' => e = .returned (.bool true) ∧ Below w.heap.size w w' := by
  have d : (30 : Int) < (n : Int) := by omega
  go_enter Try.func3, Try.ntmps3
  go_wp2
  go_ret
  exact ⟨rfl, by (repeat (first | exact Below.refl _ _ | assumption | refine Below.drew ?_ | refine below_drewN ?_ _ | refine Below.setCell ?_ (by first | omega | (simp; done) | (simp; omega)) _ | refine Below.alloc ?_ (by first | omega | (simp; done) | (simp; omega)) _))⟩

set_option maxRecDepth 100000 in
set_option maxHeartbeats 8000000 in
theorem law_fdoes_short (A : Option Addr) (n c : Nat) (F : Nat → Nat → Int) (an ad bn bd : Int) (w : World) (hA : A = none → n = 0 ∧ c = 0) (hr : RowK w A n 2 F) (hn : n ≤ 30) :
    Calls Try.prog 3 #[.agg #[.int .i64 an, .int .i64 ad], .agg #[.int .i64 bn, .int .i64 bd], .slice A n c] w fun e w' => e = .returned (.bool true) ∧ Below w.heap.size w w' := by
  have R := Lib.hid hr
  have HA := Lib.hid hA
  clear hr hA
  have d30 : ¬ (30 : Int) < (n : Int) := by omega
  have FL1 := Lib.hid (fun W => ffloor_any an ad W)
  have FL2 := Lib.hid (fun W => rffloor_any an ad W)
  have RD1 := Lib.hid (fun W => reduce_any an ad W)
  have RD2 := Lib.hid (fun W => rreduce_any an ad W)
  have I1 := Lib.hid (fun W => fis_any an ad W)
  have I2 := Lib.hid (fun W => ris_f_any an ad W)
  have C1 := Lib.hid (fun W => fcmp_any an ad bn bd W)
  have C2 := Lib.hid (fun W => rcmp_any an ad bn bd W)
  have LE1 := Lib.hid (fun W (q : RowK W A n 2 F) => least_any A n c F W q (by omega))
  have LE2 := Lib.hid (fun W A' c' (q : RowK W A' n 2 F) => rleast_any A' n c' F W q (by omega))
  generalize flF an ad = f0 at *
  generalize erF an ad = e0 at *
  generalize rdN an ad = r0 at *
  generalize rdD an ad = r1 at *
  generalize isF an ad = ib at *
  generalize cmpF an ad bn bd = z at *
  generalize lsF F n = m at *
  generalize decide (0 < n) = bb at *
  go_enter Try.func3, Try.ntmps3
  go_upto_region 1 with fail
  have hbx := below_new1 w (.cells #[.int .i64 an, .int .i64 ad] 23)
  have zx : (w.alloc (.cells #[.int .i64 an, .int .i64 ad] 23)).heap.size = w.heap.size + 1 := by simp
  have HB := Lib.hid hbx
  have kx := Lib.hid (Lok.new w 23 #[.int .i64 an, .int .i64 ad])
  clear hbx
  generalize w.alloc (.cells #[.int .i64 an, .int .i64 ad] 23) = Vx at *
  have hby := below_new1 Vx (.cells #[.int .i64 bn, .int .i64 bd] 23)
  replace kx := Lib.hid (kx.out.keep hby)
  have zy : (Vx.alloc (.cells #[.int .i64 bn, .int .i64 bd] 23)).heap.size = Vx.heap.size + 1 := by simp
  replace HB := Lib.hid (HB.out.trans (hby.mono HB.out.size))
  have ky := Lib.hid (Lok.new Vx 23 #[.int .i64 bn, .int .i64 bd])
  clear hby
  generalize Vx.alloc (.cells #[.int .i64 bn, .int .i64 bd] 23) = Vy at *
  rw [zx] at ky
  clear zx zy
  replace R := Lib.hid (R.out.keep HB.out)
  go_wp2_with fail
  ((with_reducible refine (rown_any A n c F Vy HA.out R.out (by omega)).mono ?_); rintro e w1 ⟨A1, c1, rfl, -, -, -, hb1, o4⟩)
  replace HB := Lib.hid (HB.out.trans (hb1.mono HB.out.size))
  replace kx := Lib.hid (kx.out.keep hb1)
  replace ky := Lib.hid (ky.out.keep hb1)
  replace R := Lib.hid (R.out.keep hb1)
  have O := Lib.hid o4
  clear hb1 o4
  have x0 := kx.out.cell (i := 0) rfl
  have x1 := kx.out.cell (i := 1) rfl
  go_wp2_with fail
  clear x0 x1
  (((with_reducible refine (FL1.out _).mono ?_); rintro e w2 ⟨rfl, hb2⟩); replace HB := Lib.hid (HB.out.trans (hb2.mono HB.out.size)); replace kx := Lib.hid (kx.out.keep hb2); replace ky := Lib.hid (ky.out.keep hb2); replace R := Lib.hid (R.out.keep hb2); replace O := Lib.hid (O.out.keep hb2); clear hb2)
  have x0 := kx.out.cell (i := 0) rfl
  have x1 := kx.out.cell (i := 1) rfl
  go_wp2_with fail
  clear x0 x1
  (((with_reducible refine (FL2.out _).mono ?_); rintro e w3 ⟨rfl, hb3⟩); replace HB := Lib.hid (HB.out.trans (hb3.mono HB.out.size)); replace kx := Lib.hid (kx.out.keep hb3); replace ky := Lib.hid (ky.out.keep hb3); replace R := Lib.hid (R.out.keep hb3); replace O := Lib.hid (O.out.keep hb3); clear hb3)
  have x0 := kx.out.cell (i := 0) rfl
  have x1 := kx.out.cell (i := 1) rfl
  go_wp2_with fail
  clear x0 x1
  ((with_reducible refine (RD1.out _).mono ?_); rintro e w4 ⟨rfl, hb4⟩)
  replace HB := Lib.hid (HB.out.trans (hb4.mono HB.out.size))
  replace kx := Lib.hid (kx.out.keep hb4)
  replace ky := Lib.hid (ky.out.keep hb4)
  replace R := Lib.hid (R.out.keep hb4)
  replace O := Lib.hid (O.out.keep hb4)
  clear hb4
  have y0 := keepa (o := .cells #[.int .i64 r0, .int .i64 r1] 23) (kx.out.cell (i := 0) rfl); have y1 := keepa (o := .cells #[.int .i64 r0, .int .i64 r1] 23) (kx.out.cell (i := 1) rfl)
  go_wp2_with fail
  clear y0 y1
  have hb4 := below_new1 w4 (.cells #[.int .i64 r0, .int .i64 r1] 23)
  replace HB := Lib.hid (HB.out.trans (hb4.mono HB.out.size))
  replace kx := Lib.hid (kx.out.keep hb4)
  replace ky := Lib.hid (ky.out.keep hb4)
  replace R := Lib.hid (R.out.keep hb4)
  replace O := Lib.hid (O.out.keep hb4)
  have k4 := Lib.hid (Lok.new w4 23 #[.int .i64 r0, .int .i64 r1])
  clear hb4
  generalize w4.alloc (.cells #[.int .i64 r0, .int .i64 r1] 23) = V4 at *
  generalize w4.heap.size = g4 at *
  ((with_reducible refine (RD2.out _).mono ?_); rintro e w5 ⟨rfl, hb5⟩)
  replace HB := Lib.hid (HB.out.trans (hb5.mono HB.out.size))
  replace kx := Lib.hid (kx.out.keep hb5)
  replace ky := Lib.hid (ky.out.keep hb5)
  replace R := Lib.hid (R.out.keep hb5)
  replace O := Lib.hid (O.out.keep hb5)
  replace k4 := Lib.hid (k4.out.keep hb5)
  clear hb5
  go_wp2_with fail
  have hb5 := below_new1 w5 (.cells #[.int .i64 r0, .int .i64 r1] 23)
  replace HB := Lib.hid (HB.out.trans (hb5.mono HB.out.size))
  replace kx := Lib.hid (kx.out.keep hb5)
  replace ky := Lib.hid (ky.out.keep hb5)
  replace R := Lib.hid (R.out.keep hb5)
  replace O := Lib.hid (O.out.keep hb5)
  replace k4 := Lib.hid (k4.out.keep hb5)
  have k5 := Lib.hid (Lok.new w5 23 #[.int .i64 r0, .int .i64 r1])
  clear hb5
  generalize w5.alloc (.cells #[.int .i64 r0, .int .i64 r1] 23) = V5 at *
  generalize w5.heap.size = g5 at *
  (((with_reducible refine (LE1.out _ R.out).mono ?_); rintro e w6 ⟨rfl, hb6⟩); replace HB := Lib.hid (HB.out.trans (hb6.mono HB.out.size)); replace kx := Lib.hid (kx.out.keep hb6); replace ky := Lib.hid (ky.out.keep hb6); replace R := Lib.hid (R.out.keep hb6); replace O := Lib.hid (O.out.keep hb6); replace k4 := Lib.hid (k4.out.keep hb6); replace k5 := Lib.hid (k5.out.keep hb6); clear hb6)
  go_wp2_with fail
  (((with_reducible refine (LE2.out _ _ _ O.out).mono ?_); rintro e w7 ⟨rfl, hb7⟩); replace HB := Lib.hid (HB.out.trans (hb7.mono HB.out.size)); replace kx := Lib.hid (kx.out.keep hb7); replace ky := Lib.hid (ky.out.keep hb7); replace R := Lib.hid (R.out.keep hb7); replace O := Lib.hid (O.out.keep hb7); replace k4 := Lib.hid (k4.out.keep hb7); replace k5 := Lib.hid (k5.out.keep hb7); clear hb7)
  clear FL1 FL2 RD1 RD2 LE1 LE2
  go_wp2_with fail
  ((with_reducible refine (fsort_any A n c F w7 R.out (by omega)).mono ?_); rintro e w8 ⟨g, D, rfl, hg, hb8, hG, pD, sD⟩)
  have H8 := Lib.hid hb8
  have HG := Lib.hid hG
  have HP := Lib.hid pD
  have HS := Lib.hid sD
  clear hb8 hG pD sD
  go_wp2_with fail
  ((with_reducible refine (rsort_any A1 n c1 F w8 (O.out.keep H8.out) hn).mono ?_); rintro e w9 ⟨A2, c2, E, rfl, hb9, hR9, pE, sE⟩)
  replace H8 := Lib.hid (H8.out.trans (hb9.mono H8.out.size))
  replace HG := Lib.hid (HG.out.keep hb9)
  have EQ := sorted_unique (tot_cmpK F) HP.out pE HS.out sE
  have R9 := Lib.hid (hR9.congr (G := fun t j => F (D t) j) (fun t ht j _ => by rw [EQ t ht]))
  clear hb9 hR9 pE sE EQ HP HS
  go_wp2_with fail
  ((with_reducible refine (fsame_any (some ⟨g, 0, none⟩) A2 n n c2 (fun t j => F (D t) j) w9 HG.out.rowK R9.out (by omega)).mono ?_); rintro e w10 ⟨rfl, hb10⟩)
  replace H8 := Lib.hid (H8.out.trans (hb10.mono H8.out.size))
  replace HG := Lib.hid (HG.out.keep hb10)
  clear hb10 R9
  go_wp2_with fail
  go_loopw [22] (fun x wr => ∃ (i : Nat) (G : Nat → Nat → Int), x = .int .i64 i ∧ i ≤ n ∧ Below w7.heap.size w7 wr ∧ RowG wr g n G) (fun x _ => n - (intOf x).toNat)
  case atStart => exact ⟨0, _, rfl, Nat.zero_le _, H8.out, HG.out⟩
  case round =>
    clear H8 HG
    obtain ⟨i, G, rfl, hi, hB, hG⟩ := hrel
    have HW := Lib.hid hB
    have HG := Lib.hid hG
    clear hB hG
    by_cases hlt : i < n
    · have q1 : (i : Int) < (n : Int) := by omega
      have c0 := HG.out.cell i hlt 0 (by omega)
      rw [Nat.add_zero] at c0
      have fz := HG.out.frz (i * 2)
      go_wp2_with fail
      clear c0 fz
      go_roundw
      case rel => exact ⟨i + 1, _, by go_num, hlt, HW.out.setCell hg _, HG.out.put0 hlt 77⟩
      case measure => simp [intOf]; omega
    · obtain rfl : i = n := by omega
      replace HB := Lib.hid (HB.out.trans (HW.out.mono HB.out.size))
      replace kx := Lib.hid (kx.out.keep HW.out)
      replace ky := Lib.hid (ky.out.keep HW.out)
      replace k4 := Lib.hid (k4.out.keep HW.out)
      replace k5 := Lib.hid (k5.out.keep HW.out)
      replace R := Lib.hid (R.out.keep HW.out)
      replace O := Lib.hid (O.out.keep HW.out)
      clear HW HG
      generalize wr = V at *
      go_upto_region 16 with fail
      have ST := Lib.hid (past_stays V)
      have ne : Nonempty (Of (PastF V)) := ⟨⟨V, Below.refl _ _⟩⟩
      have a0 : ∀ d : Of (PastF V), d.world.cell? ⟨w.heap.size, 0, none⟩ = some (.int .i64 an) := fun d => keepc d.holds (kx.out.cell (i := 0) rfl)
      have a1 : ∀ d : Of (PastF V), d.world.cell? ⟨w.heap.size, 1, none⟩ = some (.int .i64 ad) := fun d => keepc d.holds (kx.out.cell (i := 1) rfl)
      have a2 : ∀ d : Of (PastF V), d.world.cell? ⟨w.heap.size + 1, 0, none⟩ = some (.int .i64 bn) := fun d => keepc d.holds (ky.out.cell (i := 0) rfl)
      have a3 : ∀ d : Of (PastF V), d.world.cell? ⟨w.heap.size + 1, 1, none⟩ = some (.int .i64 bd) := fun d => keepc d.holds (ky.out.cell (i := 1) rfl)
      have a4 : ∀ d : Of (PastF V), d.world.cell? ⟨g4, 0, none⟩ = some (.int .i64 r0) := fun d => keepc d.holds (k4.out.cell (i := 0) rfl)
      have a5 : ∀ d : Of (PastF V), d.world.cell? ⟨g4, 1, none⟩ = some (.int .i64 r1) := fun d => keepc d.holds (k4.out.cell (i := 1) rfl)
      have a6 : ∀ d : Of (PastF V), d.world.cell? ⟨g5, 0, none⟩ = some (.int .i64 r0) := fun d => keepc d.holds (k5.out.cell (i := 0) rfl)
      have a7 : ∀ d : Of (PastF V), d.world.cell? ⟨g5, 1, none⟩ = some (.int .i64 r1) := fun d => keepc d.holds (k5.out.cell (i := 1) rfl)
      have SM := Lib.hid (fun d : Of (PastF V) => fsame_any A A1 i c c1 F d.world (R.out.keep d.holds) (O.out.keep d.holds) (by omega))
      clear kx ky k4 k5 R O HA
      refine wp_region_class (S := PastF V) (by kernel_rfl) (by kernel_rfl) (Below.refl _ _).drew ?_
      repeat (go_big_quiet_step (first
        | (go_at_call 18; exact class_call ST.out _ (fshared_any _))
        | (go_at_call 19; exact class_call ST.out _ (I1.out _))
        | (go_at_call 20; exact class_call ST.out _ (I2.out _))
        | (go_at_call 21; exact class_call ST.out _ (C1.out _))
        | (go_at_call 22; exact class_call ST.out _ (C2.out _))
        | (go_at_call 16; exact class_call ST.out _ (SM.out _))))
      refine wpQuiet_nil ?_
      rintro _ ⟨d, rfl⟩
      have HD := Lib.hid (HB.out.trans ((show Below V.heap.size V d.world from d.holds).mono HB.out.size))
      clear a0 a1 a2 a3 a4 a5 a6 a7 ne ST SM
      go_wp2
      go_ret
      exact ⟨rfl, HD.out⟩
theorem law_fdoes (an ad bn bd : Int) (A : Option Addr) (n c : Nat) (F : Nat → Nat → Int) (w : World) (hA : A = none → n = 0 ∧ c = 0) (hr : RowK w A n 2 F) (hn : n ≤ 9223372036854775807) :
    Calls Try.prog 3 #[.agg #[.int .i64 an, .int .i64 ad], .agg #[.int .i64 bn, .int .i64 bd], .slice A n c] w fun e w' => e = .returned (.bool true) ∧ Below w.heap.size w w' := by
  by_cases h : n ≤ 30
  · exact law_fdoes_short A n c F an ad bn bd w hA hr h
  · exact law_fdoes_long A n c an ad bn bd w (by omega) hn
end Go.Proofs.Ytbcbocnblkepcaa
