/-
  Package mesh: Is. (gen/MsB.py)
-/
import Derived.Test.YtkheomaihhcokaaMsA
namespace Go.Proofs.Ytkheomaihhcokaa
open Go.RowKit

/-- A mesh's four rows in memory. -/
def MsW (W : World) (pa1 pa2 pa3 pa4 : Option Addr) (n1 n2 n3 n4 : Nat) (FV FT FN FC : Nat → Nat → Int) : Prop :=
  (RowK W pa1 n1 3 FV ∧ RowK W pa2 n2 2 FT ∧ RowK W pa3 n3 3 FN ∧ RowK W pa4 n4 9 FC) ∧ n1 ≤ 9223372036854775806 ∧ n2 ≤ 9223372036854775806 ∧ n3 ≤ 9223372036854775806 ∧ n4 ≤ 9223372036854775806
theorem MsW.keep {W W' : World} {pa1 pa2 pa3 pa4 : Option Addr} {n1 n2 n3 n4 : Nat} {FV FT FN FC : Nat → Nat → Int} (h : MsW W pa1 pa2 pa3 pa4 n1 n2 n3 n4 FV FT FN FC) (hb : Below W.heap.size W W') : MsW W' pa1 pa2 pa3 pa4 n1 n2 n3 n4 FV FT FN FC :=
  ⟨⟨h.1.1.keep hb, h.1.2.1.keep hb, h.1.2.2.1.keep hb, h.1.2.2.2.keep hb⟩, h.2⟩
theorem trB_row (n1 n2 n3 : Nat) (F : Nat → Int) : trB n1 n2 n3 (f9 (F 0) (F 1) (F 2) (F 3) (F 4) (F 5) (F 6) (F 7) (F 8)) = trB n1 n2 n3 F := rfl
set_option maxRecDepth 100000 in
set_option maxHeartbeats 16000000 in
theorem mis_any (pa1 pa2 pa3 pa4 : Option Addr) (n1 n2 n3 n4 c1 c2 c3 c4 : Nat) (FV FT FN FC : Nat → Nat → Int) (w : World) (hm : MsW w pa1 pa2 pa3 pa4 n1 n2 n3 n4 FV FT FN FC) :
    Calls Try.prog 25 #[.agg #[.slice pa1 n1 c1, .slice pa2 n2 c2, .slice pa3 n3 c3, .slice pa4 n4 c4]] w fun e' w' => e' = .returned (.bool (msB n1 n2 n3 n4 FV FT FN FC)) ∧ Below w.heap.size w w' := by
  have HB := Lib.hid (Below.refl w.heap.size w)
  have M := Lib.hid hm
  clear hm
  have S := Lib.hid (fun W => short_any pa1 pa2 pa3 pa4 n1 n2 n3 n4 c1 c2 c3 c4 W)
  have V := Lib.hid (fun W (h : Below w.heap.size w W) => is3_any pa1 n1 c1 FV W (M.out.keep h).1.1 (by have := M.out.2.1; omega))
  have T := Lib.hid (fun W (h : Below w.heap.size w W) => is2_any pa2 n2 c2 FT W (M.out.keep h).1.2.1 (by have := M.out.2.2.1; omega))
  have N := Lib.hid (fun W (h : Below w.heap.size w W) => is3_any pa3 n3 c3 FN W (M.out.keep h).1.2.2.1 (by have := M.out.2.2.2.1; omega))
  have TR := Lib.hid (fun x0 x1 x2 x3 x4 x5 x6 x7 x8 W => triangle_any pa1 pa2 pa3 pa4 n1 n2 n3 n4 c1 c2 c3 c4 x0 x1 x2 x3 x4 x5 x6 x7 x8 W)
  unfold msB
  cases hs : shB n1 n2 n3 n4 with
  | false =>
    rw [Bool.false_and]
    rw [hs] at S
    clear hs
    go_enter Try.func25, Try.ntmps25
    go_upto_region 1 with fail
    have hbm := below_new1 w (.cells #[.slice pa1 n1 c1, .slice pa2 n2 c2, .slice pa3 n3 c3, .slice pa4 n4 c4] 26)
    have zm : (w.alloc (.cells #[.slice pa1 n1 c1, .slice pa2 n2 c2, .slice pa3 n3 c3, .slice pa4 n4 c4] 26)).heap.size = w.heap.size + 1 := by simp
    have HB := Lib.hid hbm
    have km := Lib.hid (Lok.new w 26 #[.slice pa1 n1 c1, .slice pa2 n2 c2, .slice pa3 n3 c3, .slice pa4 n4 c4])
    clear hbm
    generalize w.alloc (.cells #[.slice pa1 n1 c1, .slice pa2 n2 c2, .slice pa3 n3 c3, .slice pa4 n4 c4] 26) = Vm at *
    clear zm
    have m0 := km.out.cell (i := 0) rfl
    have m1 := km.out.cell (i := 1) rfl
    have m2 := km.out.cell (i := 2) rfl
    have m3 := km.out.cell (i := 3) rfl
    go_wp2_with fail
    clear m0 m1 m2 m3
    (((with_reducible refine (S.out _).mono ?_); rintro e w1 ⟨rfl, hb1⟩); replace HB := Lib.hid (HB.out.trans (hb1.mono HB.out.size)); replace km := Lib.hid (km.out.keep hb1); clear hb1)
    clear km
    go_wp2
    go_ret
    exact ⟨rfl, HB.out⟩
  | true =>
    rw [Bool.true_and]
    rw [hs] at S
    cases h1 : a3 FV n1 with
    | false =>
      rw [Bool.false_and]
      rw [h1] at V
      go_enter Try.func25, Try.ntmps25
      go_upto_region 1 with fail
      have hbm := below_new1 w (.cells #[.slice pa1 n1 c1, .slice pa2 n2 c2, .slice pa3 n3 c3, .slice pa4 n4 c4] 26)
      have zm : (w.alloc (.cells #[.slice pa1 n1 c1, .slice pa2 n2 c2, .slice pa3 n3 c3, .slice pa4 n4 c4] 26)).heap.size = w.heap.size + 1 := by simp
      have HB := Lib.hid hbm
      have km := Lib.hid (Lok.new w 26 #[.slice pa1 n1 c1, .slice pa2 n2 c2, .slice pa3 n3 c3, .slice pa4 n4 c4])
      clear hbm
      generalize w.alloc (.cells #[.slice pa1 n1 c1, .slice pa2 n2 c2, .slice pa3 n3 c3, .slice pa4 n4 c4] 26) = Vm at *
      clear zm
      have m0 := km.out.cell (i := 0) rfl
      have m1 := km.out.cell (i := 1) rfl
      have m2 := km.out.cell (i := 2) rfl
      have m3 := km.out.cell (i := 3) rfl
      go_wp2_with fail
      clear m0 m1 m2 m3
      (((with_reducible refine (S.out _).mono ?_); rintro e w1 ⟨rfl, hb1⟩); replace HB := Lib.hid (HB.out.trans (hb1.mono HB.out.size)); replace km := Lib.hid (km.out.keep hb1); clear hb1)
      have m0 := km.out.cell (i := 0) rfl
      have m1 := km.out.cell (i := 1) rfl
      have m2 := km.out.cell (i := 2) rfl
      have m3 := km.out.cell (i := 3) rfl
      go_wp2_with fail
      clear m0 m1 m2 m3
      (((with_reducible refine (V.out _ HB.out).mono ?_); rintro e w2 ⟨rfl, hb2⟩); replace HB := Lib.hid (HB.out.trans (hb2.mono HB.out.size)); replace km := Lib.hid (km.out.keep hb2); clear hb2)
      clear km
      go_wp2
      go_ret
      exact ⟨rfl, HB.out⟩
    | true =>
      rw [Bool.true_and]
      rw [h1] at V
      cases h2 : a2 FT n2 with
      | false =>
        rw [Bool.false_and]
        rw [h2] at T
        go_enter Try.func25, Try.ntmps25
        go_upto_region 1 with fail
        have hbm := below_new1 w (.cells #[.slice pa1 n1 c1, .slice pa2 n2 c2, .slice pa3 n3 c3, .slice pa4 n4 c4] 26)
        have zm : (w.alloc (.cells #[.slice pa1 n1 c1, .slice pa2 n2 c2, .slice pa3 n3 c3, .slice pa4 n4 c4] 26)).heap.size = w.heap.size + 1 := by simp
        have HB := Lib.hid hbm
        have km := Lib.hid (Lok.new w 26 #[.slice pa1 n1 c1, .slice pa2 n2 c2, .slice pa3 n3 c3, .slice pa4 n4 c4])
        clear hbm
        generalize w.alloc (.cells #[.slice pa1 n1 c1, .slice pa2 n2 c2, .slice pa3 n3 c3, .slice pa4 n4 c4] 26) = Vm at *
        clear zm
        have m0 := km.out.cell (i := 0) rfl
        have m1 := km.out.cell (i := 1) rfl
        have m2 := km.out.cell (i := 2) rfl
        have m3 := km.out.cell (i := 3) rfl
        go_wp2_with fail
        clear m0 m1 m2 m3
        (((with_reducible refine (S.out _).mono ?_); rintro e w1 ⟨rfl, hb1⟩); replace HB := Lib.hid (HB.out.trans (hb1.mono HB.out.size)); replace km := Lib.hid (km.out.keep hb1); clear hb1)
        have m0 := km.out.cell (i := 0) rfl
        have m1 := km.out.cell (i := 1) rfl
        have m2 := km.out.cell (i := 2) rfl
        have m3 := km.out.cell (i := 3) rfl
        go_wp2_with fail
        clear m0 m1 m2 m3
        (((with_reducible refine (V.out _ HB.out).mono ?_); rintro e w2 ⟨rfl, hb2⟩); replace HB := Lib.hid (HB.out.trans (hb2.mono HB.out.size)); replace km := Lib.hid (km.out.keep hb2); clear hb2)
        have m0 := km.out.cell (i := 0) rfl
        have m1 := km.out.cell (i := 1) rfl
        have m2 := km.out.cell (i := 2) rfl
        have m3 := km.out.cell (i := 3) rfl
        go_wp2_with fail
        clear m0 m1 m2 m3
        (((with_reducible refine (T.out _ HB.out).mono ?_); rintro e w3 ⟨rfl, hb3⟩); replace HB := Lib.hid (HB.out.trans (hb3.mono HB.out.size)); replace km := Lib.hid (km.out.keep hb3); clear hb3)
        clear km
        go_wp2
        go_ret
        exact ⟨rfl, HB.out⟩
      | true =>
        rw [Bool.true_and]
        rw [h2] at T
        cases h3 : a3 FN n3 with
        | false =>
          rw [Bool.false_and]
          rw [h3] at N
          go_enter Try.func25, Try.ntmps25
          go_upto_region 1 with fail
          have hbm := below_new1 w (.cells #[.slice pa1 n1 c1, .slice pa2 n2 c2, .slice pa3 n3 c3, .slice pa4 n4 c4] 26)
          have zm : (w.alloc (.cells #[.slice pa1 n1 c1, .slice pa2 n2 c2, .slice pa3 n3 c3, .slice pa4 n4 c4] 26)).heap.size = w.heap.size + 1 := by simp
          have HB := Lib.hid hbm
          have km := Lib.hid (Lok.new w 26 #[.slice pa1 n1 c1, .slice pa2 n2 c2, .slice pa3 n3 c3, .slice pa4 n4 c4])
          clear hbm
          generalize w.alloc (.cells #[.slice pa1 n1 c1, .slice pa2 n2 c2, .slice pa3 n3 c3, .slice pa4 n4 c4] 26) = Vm at *
          clear zm
          have m0 := km.out.cell (i := 0) rfl
          have m1 := km.out.cell (i := 1) rfl
          have m2 := km.out.cell (i := 2) rfl
          have m3 := km.out.cell (i := 3) rfl
          go_wp2_with fail
          clear m0 m1 m2 m3
          (((with_reducible refine (S.out _).mono ?_); rintro e w1 ⟨rfl, hb1⟩); replace HB := Lib.hid (HB.out.trans (hb1.mono HB.out.size)); replace km := Lib.hid (km.out.keep hb1); clear hb1)
          have m0 := km.out.cell (i := 0) rfl
          have m1 := km.out.cell (i := 1) rfl
          have m2 := km.out.cell (i := 2) rfl
          have m3 := km.out.cell (i := 3) rfl
          go_wp2_with fail
          clear m0 m1 m2 m3
          (((with_reducible refine (V.out _ HB.out).mono ?_); rintro e w2 ⟨rfl, hb2⟩); replace HB := Lib.hid (HB.out.trans (hb2.mono HB.out.size)); replace km := Lib.hid (km.out.keep hb2); clear hb2)
          have m0 := km.out.cell (i := 0) rfl
          have m1 := km.out.cell (i := 1) rfl
          have m2 := km.out.cell (i := 2) rfl
          have m3 := km.out.cell (i := 3) rfl
          go_wp2_with fail
          clear m0 m1 m2 m3
          (((with_reducible refine (T.out _ HB.out).mono ?_); rintro e w3 ⟨rfl, hb3⟩); replace HB := Lib.hid (HB.out.trans (hb3.mono HB.out.size)); replace km := Lib.hid (km.out.keep hb3); clear hb3)
          have m0 := km.out.cell (i := 0) rfl
          have m1 := km.out.cell (i := 1) rfl
          have m2 := km.out.cell (i := 2) rfl
          have m3 := km.out.cell (i := 3) rfl
          go_wp2_with fail
          clear m0 m1 m2 m3
          (((with_reducible refine (N.out _ HB.out).mono ?_); rintro e w4 ⟨rfl, hb4⟩); replace HB := Lib.hid (HB.out.trans (hb4.mono HB.out.size)); replace km := Lib.hid (km.out.keep hb4); clear hb4)
          clear km
          go_wp2
          go_ret
          exact ⟨rfl, HB.out⟩
        | true =>
          rw [Bool.true_and]
          rw [h3] at N
          go_enter Try.func25, Try.ntmps25
          go_upto_region 1 with fail
          have hbm := below_new1 w (.cells #[.slice pa1 n1 c1, .slice pa2 n2 c2, .slice pa3 n3 c3, .slice pa4 n4 c4] 26)
          have zm : (w.alloc (.cells #[.slice pa1 n1 c1, .slice pa2 n2 c2, .slice pa3 n3 c3, .slice pa4 n4 c4] 26)).heap.size = w.heap.size + 1 := by simp
          have HB := Lib.hid hbm
          have km := Lib.hid (Lok.new w 26 #[.slice pa1 n1 c1, .slice pa2 n2 c2, .slice pa3 n3 c3, .slice pa4 n4 c4])
          clear hbm
          generalize w.alloc (.cells #[.slice pa1 n1 c1, .slice pa2 n2 c2, .slice pa3 n3 c3, .slice pa4 n4 c4] 26) = Vm at *
          clear zm
          have m0 := km.out.cell (i := 0) rfl
          have m1 := km.out.cell (i := 1) rfl
          have m2 := km.out.cell (i := 2) rfl
          have m3 := km.out.cell (i := 3) rfl
          go_wp2_with fail
          clear m0 m1 m2 m3
          (((with_reducible refine (S.out _).mono ?_); rintro e w1 ⟨rfl, hb1⟩); replace HB := Lib.hid (HB.out.trans (hb1.mono HB.out.size)); replace km := Lib.hid (km.out.keep hb1); clear hb1)
          have m0 := km.out.cell (i := 0) rfl
          have m1 := km.out.cell (i := 1) rfl
          have m2 := km.out.cell (i := 2) rfl
          have m3 := km.out.cell (i := 3) rfl
          go_wp2_with fail
          clear m0 m1 m2 m3
          (((with_reducible refine (V.out _ HB.out).mono ?_); rintro e w2 ⟨rfl, hb2⟩); replace HB := Lib.hid (HB.out.trans (hb2.mono HB.out.size)); replace km := Lib.hid (km.out.keep hb2); clear hb2)
          have m0 := km.out.cell (i := 0) rfl
          have m1 := km.out.cell (i := 1) rfl
          have m2 := km.out.cell (i := 2) rfl
          have m3 := km.out.cell (i := 3) rfl
          go_wp2_with fail
          clear m0 m1 m2 m3
          (((with_reducible refine (T.out _ HB.out).mono ?_); rintro e w3 ⟨rfl, hb3⟩); replace HB := Lib.hid (HB.out.trans (hb3.mono HB.out.size)); replace km := Lib.hid (km.out.keep hb3); clear hb3)
          have m0 := km.out.cell (i := 0) rfl
          have m1 := km.out.cell (i := 1) rfl
          have m2 := km.out.cell (i := 2) rfl
          have m3 := km.out.cell (i := 3) rfl
          go_wp2_with fail
          clear m0 m1 m2 m3
          (((with_reducible refine (N.out _ HB.out).mono ?_); rintro e w4 ⟨rfl, hb4⟩); replace HB := Lib.hid (HB.out.trans (hb4.mono HB.out.size)); replace km := Lib.hid (km.out.keep hb4); clear hb4)
          have km0 := km
          have HB0 := HB
          clear km HB V T N S
          have m3 := km0.out.cell (i := 3) rfl
          go_wp2_with fail
          clear m3
          go_loopw [29] (fun x wr => ∃ k : Nat, x = .int .i64 k ∧ k ≤ n4 ∧ (∀ j, j < k → trB n1 n2 n3 (FC j) = true) ∧ Below w4.heap.size w4 wr) (fun x _ => n4 - (intOf x).toNat)
          case atStart => exact ⟨0, rfl, Nat.zero_le _, fun j h => absurd h (by omega), Below.refl _ _⟩
          case round =>
            obtain ⟨k, rfl, hk, hR, hB⟩ := hrel
            have HB := Lib.hid (HB0.out.trans (hB.mono HB0.out.size))
            have BW := Lib.hid hB
            have km := Lib.hid (km0.out.keep hB)
            have HR := Lib.hid hR
            have bn4 := M.out.2.2.2.2
            clear hB hR
            by_cases hlt : k < n4
            · obtain ⟨b, o, rfl, hb, hc⟩ := ((M.out.keep HB.out).1.2.2.2).at hlt
              have d0 := hc k hlt 0 (by omega)
              have d1 := hc k hlt 1 (by omega)
              have d2 := hc k hlt 2 (by omega)
              have d3 := hc k hlt 3 (by omega)
              have d4 := hc k hlt 4 (by omega)
              have d5 := hc k hlt 5 (by omega)
              have d6 := hc k hlt 6 (by omega)
              have d7 := hc k hlt 7 (by omega)
              have d8 := hc k hlt 8 (by omega)
              rw [Nat.add_zero] at d0
              rw [← Nat.add_assoc] at d1 d2 d3 d4 d5 d6 d7 d8
              have no : trB n1 n2 n3 (FC k) = false → allB (fun i => trB n1 n2 n3 (FC i)) n4 = false := allB_no (P := fun i => trB n1 n2 n3 (FC i)) hlt
              have yes : trB n1 n2 n3 (FC k) = true → ∀ j, j < k + 1 → trB n1 n2 n3 (FC j) = true := fun q j hj => by
                by_cases e : j = k
                · rw [e]; exact q
                · exact HR.out j (by omega)
              rw [← trB_row n1 n2 n3 (FC k)] at no yes
              clear hc
              generalize FC k 0 = x0 at *
              generalize FC k 1 = x1 at *
              generalize FC k 2 = x2 at *
              generalize FC k 3 = x3 at *
              generalize FC k 4 = x4 at *
              generalize FC k 5 = x5 at *
              generalize FC k 6 = x6 at *
              generalize FC k 7 = x7 at *
              generalize FC k 8 = x8 at *
              have NO := Lib.hid no
              have YES := Lib.hid yes
              clear no yes
              have i0 : (0 : Int) ≤ (k : Int) := by omega
              have i1 : (k : Int) < (n4 : Int) := by omega
              have i2 : ((k : Int)).toNat = k := by omega
              have BW2 := Lib.hid (BW.out.trans ((below_new1 wr (.cells #[.int .i64 x0, .int .i64 x1, .int .i64 x2, .int .i64 x3, .int .i64 x4, .int .i64 x5, .int .i64 x6, .int .i64 x7, .int .i64 x8] 51)).mono BW.out.size))
              go_upto_region 6 with fail
              have hbp := below_new1 wr (.cells #[.int .i64 x0, .int .i64 x1, .int .i64 x2, .int .i64 x3, .int .i64 x4, .int .i64 x5, .int .i64 x6, .int .i64 x7, .int .i64 x8] 51)
              replace km := Lib.hid (km.out.keep hbp)
              have zp : (wr.alloc (.cells #[.int .i64 x0, .int .i64 x1, .int .i64 x2, .int .i64 x3, .int .i64 x4, .int .i64 x5, .int .i64 x6, .int .i64 x7, .int .i64 x8] 51)).heap.size = wr.heap.size + 1 := by simp
              replace HB := Lib.hid (HB.out.trans (hbp.mono HB.out.size))
              have kp := Lib.hid (Lok.new wr 51 #[.int .i64 x0, .int .i64 x1, .int .i64 x2, .int .i64 x3, .int .i64 x4, .int .i64 x5, .int .i64 x6, .int .i64 x7, .int .i64 x8])
              clear hbp
              generalize wr.alloc (.cells #[.int .i64 x0, .int .i64 x1, .int .i64 x2, .int .i64 x3, .int .i64 x4, .int .i64 x5, .int .i64 x6, .int .i64 x7, .int .i64 x8] 51) = Vp at *
              clear zp d0 d1 d2 d3 d4 d5 d6 d7 d8 BW
              have p0 := kp.out.cell (i := 0) rfl
              have p1 := kp.out.cell (i := 1) rfl
              have p2 := kp.out.cell (i := 2) rfl
              have p3 := kp.out.cell (i := 3) rfl
              have p4 := kp.out.cell (i := 4) rfl
              have p5 := kp.out.cell (i := 5) rfl
              have p6 := kp.out.cell (i := 6) rfl
              have p7 := kp.out.cell (i := 7) rfl
              have p8 := kp.out.cell (i := 8) rfl
              have m0 := km.out.cell (i := 0) rfl
              have m1 := km.out.cell (i := 1) rfl
              have m2 := km.out.cell (i := 2) rfl
              have m3 := km.out.cell (i := 3) rfl
              go_wp2_with fail
              clear p0 p1 p2 p3 p4 p5 p6 p7 p8
              clear m0 m1 m2 m3
              ((with_reducible refine (TR.out _ _ _ _ _ _ _ _ _ _).mono ?_); rintro e w5 ⟨rfl, hb5⟩)
              replace HB := Lib.hid (HB.out.trans (hb5.mono HB.out.size))
              replace BW2 := Lib.hid (BW2.out.trans (hb5.mono BW2.out.size))
              clear hb5 kp km
              cases hq : trB n1 n2 n3 (f9 x0 x1 x2 x3 x4 x5 x6 x7 x8) with
              | false =>
                have E := Lib.hid (NO.out hq)
                clear NO YES hq
                go_wp2
                go_ret
                exact ⟨by rw [E.out]; rfl, HB.out⟩
              | true =>
                have E := Lib.hid (YES.out hq)
                clear NO YES hq
                go_wp2
                go_roundw
                case rel => exact ⟨k + 1, by go_num, hlt, E.out, BW2.out⟩
                case measure => simp [intOf]; omega
            · obtain rfl : k = n4 := by omega
              go_wp2
              go_ret
              refine ⟨?_, HB.out⟩
              have e : allB (fun i => trB n1 n2 n3 (FC i)) k = true := allB_yes HR.out
              rw [e]; rfl
end Go.Proofs.Ytkheomaihhcokaa
