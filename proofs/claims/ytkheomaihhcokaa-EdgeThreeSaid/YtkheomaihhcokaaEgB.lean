/-
  The reference limewashref14: next. (gen/EgB.py)
-/
import Derived.Test.YtkheomaihhcokaaEgA
import Derived.Test.YtkheomaihhcokaaMsB
import Derived.Test.YtkheomaihhcokaaVcG
namespace Go.Proofs.Ytkheomaihhcokaa
open Go.RowKit

theorem nxB_same (F : Nat → Nat → Int) (i : Nat) : nxB F i i = false := by unfold nxB; simp
theorem nxB_other {F : Nat → Nat → Int} {i k : Nat} (h : ¬ i = k) : nxB F i k = nxE (F i 0) (F i 3) (F i 6) (F k 0) (F k 3) (F k 6) := by unfold nxB; rw [show (i != k) = true from by simp [h], Bool.true_and]
set_option maxRecDepth 100000 in
set_option maxHeartbeats 16000000 in
theorem rnext_any (pa1 pa2 pa3 pa4 : Option Addr) (n1 n2 n3 n4 c1 c2 c3 c4 : Nat) (FV FT FN FC : Nat → Nat → Int) (i k : Nat) (w : World) (hm : MsW w pa1 pa2 pa3 pa4 n1 n2 n3 n4 FV FT FN FC) (hi : i < n4) (hk : k < n4) :
    Calls Try.prog 38 #[.agg #[.slice pa1 n1 c1, .slice pa2 n2 c2, .slice pa3 n3 c3, .slice pa4 n4 c4], .int .i64 i, .int .i64 k] w fun e' w' => e' = .returned (.bool (nxB FC i k)) ∧ Below w.heap.size w w' := by
  have HB := Lib.hid (Below.refl w.heap.size w)
  have M := Lib.hid hm
  have bn4 := hm.2.2.2.2
  clear hm
  by_cases hik : i = k
  · subst hik
    rw [nxB_same]
    go_enter Try.func38, Try.ntmps38
    go_upto_region 1 with fail
    have hbm := below_new1 w (.cells #[.slice pa1 n1 c1, .slice pa2 n2 c2, .slice pa3 n3 c3, .slice pa4 n4 c4] 26)
    have zm : (w.alloc (.cells #[.slice pa1 n1 c1, .slice pa2 n2 c2, .slice pa3 n3 c3, .slice pa4 n4 c4] 26)).heap.size = w.heap.size + 1 := by simp
    have HB := Lib.hid hbm
    have km := Lib.hid (Lok.new w 26 #[.slice pa1 n1 c1, .slice pa2 n2 c2, .slice pa3 n3 c3, .slice pa4 n4 c4])
    clear hbm
    generalize w.alloc (.cells #[.slice pa1 n1 c1, .slice pa2 n2 c2, .slice pa3 n3 c3, .slice pa4 n4 c4] 26) = Vm at *
    clear zm
    clear km
    go_wp2
    go_ret
    exact ⟨rfl, HB.out⟩
  · rw [nxB_other hik]
    have hik2 : ¬ (i : Int) = (k : Int) := by omega
    have R := Lib.hid M.out.1.2.2.2
    clear M
    obtain ⟨b, o, rfl, hb, hc⟩ := R.out.at hi
    have d0 := hc i hi 0 (by omega)
    have d1 := hc i hi 1 (by omega)
    have d2 := hc i hi 2 (by omega)
    have d3 := hc i hi 3 (by omega)
    have d4 := hc i hi 4 (by omega)
    have d5 := hc i hi 5 (by omega)
    have d6 := hc i hi 6 (by omega)
    have d7 := hc i hi 7 (by omega)
    have d8 := hc i hi 8 (by omega)
    rw [Nat.add_zero] at d0
    rw [← Nat.add_assoc] at d1 d2 d3 d4 d5 d6 d7 d8
    have e0 := hc k hk 0 (by omega)
    have e1 := hc k hk 1 (by omega)
    have e2 := hc k hk 2 (by omega)
    have e3 := hc k hk 3 (by omega)
    have e4 := hc k hk 4 (by omega)
    have e5 := hc k hk 5 (by omega)
    have e6 := hc k hk 6 (by omega)
    have e7 := hc k hk 7 (by omega)
    have e8 := hc k hk 8 (by omega)
    rw [Nat.add_zero] at e0
    rw [← Nat.add_assoc] at e1 e2 e3 e4 e5 e6 e7 e8
    generalize FC i 0 = x0 at *
    generalize FC i 1 = x1 at *
    generalize FC i 2 = x2 at *
    generalize FC i 3 = x3 at *
    generalize FC i 4 = x4 at *
    generalize FC i 5 = x5 at *
    generalize FC i 6 = x6 at *
    generalize FC i 7 = x7 at *
    generalize FC i 8 = x8 at *
    generalize FC k 0 = y0 at *
    generalize FC k 1 = y1 at *
    generalize FC k 2 = y2 at *
    generalize FC k 3 = y3 at *
    generalize FC k 4 = y4 at *
    generalize FC k 5 = y5 at *
    generalize FC k 6 = y6 at *
    generalize FC k 7 = y7 at *
    generalize FC k 8 = y8 at *
    clear hc R
    have H := Lib.hid (fun a b W => rhas_any y0 y1 y2 y3 y4 y5 y6 y7 y8 a b W)
    obtain ⟨z, hz⟩ : ∃ z, z = nxE x0 x3 x6 y0 y3 y6 := ⟨_, rfl⟩
    rw [← hz]
    have HZ := Lib.hid hz
    clear hz
    have i0 : (0 : Int) ≤ (i : Int) := by omega
    have i1 : (i : Int) < (n4 : Int) := by omega
    have i2 : ((i : Int)).toNat = i := by omega
    have k0 : (0 : Int) ≤ (k : Int) := by omega
    have k1 : (k : Int) < (n4 : Int) := by omega
    have k2 : ((k : Int)).toNat = k := by omega
    go_enter Try.func38, Try.ntmps38
    go_upto_region 1 with fail
    have hbm := below_new1 w (.cells #[.slice pa1 n1 c1, .slice pa2 n2 c2, .slice pa3 n3 c3, .slice (some ⟨b, o, none⟩) n4 c4] 26)
    have zm : (w.alloc (.cells #[.slice pa1 n1 c1, .slice pa2 n2 c2, .slice pa3 n3 c3, .slice (some ⟨b, o, none⟩) n4 c4] 26)).heap.size = w.heap.size + 1 := by simp
    have HB := Lib.hid hbm
    have km := Lib.hid (Lok.new w 26 #[.slice pa1 n1 c1, .slice pa2 n2 c2, .slice pa3 n3 c3, .slice (some ⟨b, o, none⟩) n4 c4])
    clear hbm
    generalize w.alloc (.cells #[.slice pa1 n1 c1, .slice pa2 n2 c2, .slice pa3 n3 c3, .slice (some ⟨b, o, none⟩) n4 c4] 26) = Vm at *
    clear zm
    have m3 := km.out.cell (i := 3) rfl
    replace d0 := keepc HB.out d0
    replace d1 := keepc HB.out d1
    replace d2 := keepc HB.out d2
    replace d3 := keepc HB.out d3
    replace d4 := keepc HB.out d4
    replace d5 := keepc HB.out d5
    replace d6 := keepc HB.out d6
    replace d7 := keepc HB.out d7
    replace d8 := keepc HB.out d8
    replace e0 := keepc HB.out e0
    replace e1 := keepc HB.out e1
    replace e2 := keepc HB.out e2
    replace e3 := keepc HB.out e3
    replace e4 := keepc HB.out e4
    replace e5 := keepc HB.out e5
    replace e6 := keepc HB.out e6
    replace e7 := keepc HB.out e7
    replace e8 := keepc HB.out e8
    go_upto_region 4 with fail
    have hbq := below_new1 Vm (.cells #[.int .i64 x0, .int .i64 x1, .int .i64 x2, .int .i64 x3, .int .i64 x4, .int .i64 x5, .int .i64 x6, .int .i64 x7, .int .i64 x8] 51)
    replace e0 := keepc hbq e0
    replace e1 := keepc hbq e1
    replace e2 := keepc hbq e2
    replace e3 := keepc hbq e3
    replace e4 := keepc hbq e4
    replace e5 := keepc hbq e5
    replace e6 := keepc hbq e6
    replace e7 := keepc hbq e7
    replace e8 := keepc hbq e8
    clear hbq
    have hbp := below_new1 Vm (.cells #[.int .i64 x0, .int .i64 x1, .int .i64 x2, .int .i64 x3, .int .i64 x4, .int .i64 x5, .int .i64 x6, .int .i64 x7, .int .i64 x8] 51)
    replace km := Lib.hid (km.out.keep hbp)
    have zp : (Vm.alloc (.cells #[.int .i64 x0, .int .i64 x1, .int .i64 x2, .int .i64 x3, .int .i64 x4, .int .i64 x5, .int .i64 x6, .int .i64 x7, .int .i64 x8] 51)).heap.size = Vm.heap.size + 1 := by simp
    replace HB := Lib.hid (HB.out.trans (hbp.mono HB.out.size))
    have kp := Lib.hid (Lok.new Vm 51 #[.int .i64 x0, .int .i64 x1, .int .i64 x2, .int .i64 x3, .int .i64 x4, .int .i64 x5, .int .i64 x6, .int .i64 x7, .int .i64 x8])
    clear hbp
    generalize Vm.alloc (.cells #[.int .i64 x0, .int .i64 x1, .int .i64 x2, .int .i64 x3, .int .i64 x4, .int .i64 x5, .int .i64 x6, .int .i64 x7, .int .i64 x8] 51) = Vp at *
    clear zp m3 d0 d1 d2 d3 d4 d5 d6 d7 d8 i0 i1 i2
    have HB0 := HB
    have km0 := km
    have kp0 := kp
    clear HB km kp
    have E0 := Lib.hid e0
    clear e0
    have E1 := Lib.hid e1
    clear e1
    have E2 := Lib.hid e2
    clear e2
    have E3 := Lib.hid e3
    clear e3
    have E4 := Lib.hid e4
    clear e4
    have E5 := Lib.hid e5
    clear e5
    have E6 := Lib.hid e6
    clear e6
    have E7 := Lib.hid e7
    clear e7
    have E8 := Lib.hid e8
    clear e8
    go_wp2_with fail
    go_loopw [8] (fun x wr => ∃ q : Nat, x = .int .i64 q ∧ q ≤ 3 ∧ (0 < q → ((x0 != x3) && hasB y0 y3 y6 x0 x3) = false) ∧ (1 < q → ((x3 != x6) && hasB y0 y3 y6 x3 x6) = false) ∧ (2 < q → ((x6 != x0) && hasB y0 y3 y6 x6 x0) = false) ∧ Below Vp.heap.size Vp wr) (fun x _ => 3 - (intOf x).toNat)
    case atStart => exact ⟨0, rfl, by omega, fun h => absurd h (by omega), fun h => absurd h (by omega), fun h => absurd h (by omega), Below.refl _ _⟩
    case round =>
      obtain ⟨q, rfl, hq, A0, A1, A2, hB⟩ := hrel
      have A := Lib.hid (And.intro A0 (And.intro A1 A2))
      clear A0 A1 A2
      have HB := Lib.hid (HB0.out.trans (hB.mono HB0.out.size))
      have km := Lib.hid (km0.out.keep hB)
      have kp := Lib.hid (kp0.out.keep hB)
      have B0 := Lib.hid hB
      rcases (show q = 0 ∨ q = 1 ∨ q = 2 ∨ q = 3 by omega) with rfl | rfl | rfl | rfl
      · skip
        by_cases h0 : x0 = x3
        · have E : Hid (((x0 != x3) && hasB y0 y3 y6 x0 x3) = false) := Lib.hid (by rw [h0]; simp)
          clear HZ
          subst h0
          have m3 : ∀ D : Of (PastV wr), _ := fun D => (km.out.keep (show Below wr.heap.size wr D.world from D.holds)).cell (i := 3) rfl
          have p0 : ∀ D : Of (PastV wr), _ := fun D => (kp.out.keep (show Below wr.heap.size wr D.world from D.holds)).cell (i := 0) rfl
          have p3 : ∀ D : Of (PastV wr), _ := fun D => (kp.out.keep (show Below wr.heap.size wr D.world from D.holds)).cell (i := 3) rfl
          have p6 : ∀ D : Of (PastV wr), _ := fun D => (kp.out.keep (show Below wr.heap.size wr D.world from D.holds)).cell (i := 6) rfl
          have e0 : ∀ D : Of (PastV wr), _ := fun D => keepc (show Below wr.heap.size wr D.world from D.holds) (keepc hB E0.out)
          have e1 : ∀ D : Of (PastV wr), _ := fun D => keepc (show Below wr.heap.size wr D.world from D.holds) (keepc hB E1.out)
          have e2 : ∀ D : Of (PastV wr), _ := fun D => keepc (show Below wr.heap.size wr D.world from D.holds) (keepc hB E2.out)
          have e3 : ∀ D : Of (PastV wr), _ := fun D => keepc (show Below wr.heap.size wr D.world from D.holds) (keepc hB E3.out)
          have e4 : ∀ D : Of (PastV wr), _ := fun D => keepc (show Below wr.heap.size wr D.world from D.holds) (keepc hB E4.out)
          have e5 : ∀ D : Of (PastV wr), _ := fun D => keepc (show Below wr.heap.size wr D.world from D.holds) (keepc hB E5.out)
          have e6 : ∀ D : Of (PastV wr), _ := fun D => keepc (show Below wr.heap.size wr D.world from D.holds) (keepc hB E6.out)
          have e7 : ∀ D : Of (PastV wr), _ := fun D => keepc (show Below wr.heap.size wr D.world from D.holds) (keepc hB E7.out)
          have e8 : ∀ D : Of (PastV wr), _ := fun D => keepc (show Below wr.heap.size wr D.world from D.holds) (keepc hB E8.out)
          have ST := Lib.hid (pastV_stays wr)
          have ne : Nonempty (Of (PastV wr)) := ⟨⟨wr, Below.refl _ _⟩⟩
          go_upto_region 7 with fail
          refine wp_region_class (S := PastV wr) (by kernel_rfl) (by kernel_rfl) (Below.refl _ _).drew ?_
          repeat (go_big_quiet_step (first | (go_at_call 36; first | (with_reducible exact class_call ST.out _ (H.out _ _ _)))))
          refine wpQuiet_nil ?_
          rintro _ ⟨D, rfl⟩
          have hD : Below wr.heap.size wr D.world := D.holds
          go_wp2
          go_roundw
          case rel => exact ⟨1, by go_num, by omega, fun _ => by first | exact E.out | simp, fun h => absurd h (by omega), fun h => absurd h (by omega), B0.out.trans (hD.mono B0.out.size)⟩
          case measure => simp [intOf]
        · have e0' : (x0 == x3) = false := by rw [beq_eq_false_iff_ne]; exact h0
          have n0 : (x0 != x3) = true := by rw [bne, e0']; rfl
          have HC := Lib.hid (fun W => H.out x0 x3 W)
          cases hh : hasB y0 y3 y6 x0 x3 with
          | false =>
            rw [hh] at HC
            have E : Hid (((x0 != x3) && hasB y0 y3 y6 x0 x3) = false) := Lib.hid (by rw [hh, Bool.and_false])
            clear HZ hh
            have m3 : ∀ D : Of (PastV wr), _ := fun D => (km.out.keep (show Below wr.heap.size wr D.world from D.holds)).cell (i := 3) rfl
            have p0 : ∀ D : Of (PastV wr), _ := fun D => (kp.out.keep (show Below wr.heap.size wr D.world from D.holds)).cell (i := 0) rfl
            have p3 : ∀ D : Of (PastV wr), _ := fun D => (kp.out.keep (show Below wr.heap.size wr D.world from D.holds)).cell (i := 3) rfl
            have p6 : ∀ D : Of (PastV wr), _ := fun D => (kp.out.keep (show Below wr.heap.size wr D.world from D.holds)).cell (i := 6) rfl
            have e0 : ∀ D : Of (PastV wr), _ := fun D => keepc (show Below wr.heap.size wr D.world from D.holds) (keepc hB E0.out)
            have e1 : ∀ D : Of (PastV wr), _ := fun D => keepc (show Below wr.heap.size wr D.world from D.holds) (keepc hB E1.out)
            have e2 : ∀ D : Of (PastV wr), _ := fun D => keepc (show Below wr.heap.size wr D.world from D.holds) (keepc hB E2.out)
            have e3 : ∀ D : Of (PastV wr), _ := fun D => keepc (show Below wr.heap.size wr D.world from D.holds) (keepc hB E3.out)
            have e4 : ∀ D : Of (PastV wr), _ := fun D => keepc (show Below wr.heap.size wr D.world from D.holds) (keepc hB E4.out)
            have e5 : ∀ D : Of (PastV wr), _ := fun D => keepc (show Below wr.heap.size wr D.world from D.holds) (keepc hB E5.out)
            have e6 : ∀ D : Of (PastV wr), _ := fun D => keepc (show Below wr.heap.size wr D.world from D.holds) (keepc hB E6.out)
            have e7 : ∀ D : Of (PastV wr), _ := fun D => keepc (show Below wr.heap.size wr D.world from D.holds) (keepc hB E7.out)
            have e8 : ∀ D : Of (PastV wr), _ := fun D => keepc (show Below wr.heap.size wr D.world from D.holds) (keepc hB E8.out)
            have ST := Lib.hid (pastV_stays wr)
            have ne : Nonempty (Of (PastV wr)) := ⟨⟨wr, Below.refl _ _⟩⟩
            go_upto_region 7 with fail
            refine wp_region_class (S := PastV wr) (by kernel_rfl) (by kernel_rfl) (Below.refl _ _).drew ?_
            repeat (go_big_quiet_step (first | (go_at_call 36; first | (with_reducible exact class_call ST.out _ (HC.out _)))))
            refine wpQuiet_nil ?_
            rintro _ ⟨D, rfl⟩
            have hD : Below wr.heap.size wr D.world := D.holds
            go_wp2
            go_roundw
            case rel => exact ⟨1, by go_num, by omega, fun _ => by first | exact E.out | simp, fun h => absurd h (by omega), fun h => absurd h (by omega), B0.out.trans (hD.mono B0.out.size)⟩
            case measure => simp [intOf]
          | true =>
            rw [hh] at HC
            have E : Hid (z = true) := Lib.hid (by rw [HZ.out]; unfold nxE; rw [n0, hh]; rfl)
            clear HZ A hh
            have m3 : ∀ D : Of (PastV wr), _ := fun D => (km.out.keep (show Below wr.heap.size wr D.world from D.holds)).cell (i := 3) rfl
            have p0 : ∀ D : Of (PastV wr), _ := fun D => (kp.out.keep (show Below wr.heap.size wr D.world from D.holds)).cell (i := 0) rfl
            have p3 : ∀ D : Of (PastV wr), _ := fun D => (kp.out.keep (show Below wr.heap.size wr D.world from D.holds)).cell (i := 3) rfl
            have p6 : ∀ D : Of (PastV wr), _ := fun D => (kp.out.keep (show Below wr.heap.size wr D.world from D.holds)).cell (i := 6) rfl
            have e0 : ∀ D : Of (PastV wr), _ := fun D => keepc (show Below wr.heap.size wr D.world from D.holds) (keepc hB E0.out)
            have e1 : ∀ D : Of (PastV wr), _ := fun D => keepc (show Below wr.heap.size wr D.world from D.holds) (keepc hB E1.out)
            have e2 : ∀ D : Of (PastV wr), _ := fun D => keepc (show Below wr.heap.size wr D.world from D.holds) (keepc hB E2.out)
            have e3 : ∀ D : Of (PastV wr), _ := fun D => keepc (show Below wr.heap.size wr D.world from D.holds) (keepc hB E3.out)
            have e4 : ∀ D : Of (PastV wr), _ := fun D => keepc (show Below wr.heap.size wr D.world from D.holds) (keepc hB E4.out)
            have e5 : ∀ D : Of (PastV wr), _ := fun D => keepc (show Below wr.heap.size wr D.world from D.holds) (keepc hB E5.out)
            have e6 : ∀ D : Of (PastV wr), _ := fun D => keepc (show Below wr.heap.size wr D.world from D.holds) (keepc hB E6.out)
            have e7 : ∀ D : Of (PastV wr), _ := fun D => keepc (show Below wr.heap.size wr D.world from D.holds) (keepc hB E7.out)
            have e8 : ∀ D : Of (PastV wr), _ := fun D => keepc (show Below wr.heap.size wr D.world from D.holds) (keepc hB E8.out)
            have ST := Lib.hid (pastV_stays wr)
            have ne : Nonempty (Of (PastV wr)) := ⟨⟨wr, Below.refl _ _⟩⟩
            go_upto_region 7 with fail
            refine wp_region_class (S := PastV wr) (by kernel_rfl) (by kernel_rfl) (Below.refl _ _).drew ?_
            repeat (go_big_quiet_step (first | (go_at_call 36; first | (with_reducible exact class_call ST.out _ (HC.out _)))))
            refine wpQuiet_nil ?_
            rintro _ ⟨D, rfl⟩
            have hD : Below wr.heap.size wr D.world := D.holds
            go_wp2
            go_ret
            exact ⟨by rw [E.out]; rfl, HB.out.trans (hD.mono HB.out.size)⟩
      · skip
        by_cases h0 : x3 = x6
        · have E : Hid (((x3 != x6) && hasB y0 y3 y6 x3 x6) = false) := Lib.hid (by rw [h0]; simp)
          clear HZ
          subst h0
          have m3 : ∀ D : Of (PastV wr), _ := fun D => (km.out.keep (show Below wr.heap.size wr D.world from D.holds)).cell (i := 3) rfl
          have p0 : ∀ D : Of (PastV wr), _ := fun D => (kp.out.keep (show Below wr.heap.size wr D.world from D.holds)).cell (i := 0) rfl
          have p3 : ∀ D : Of (PastV wr), _ := fun D => (kp.out.keep (show Below wr.heap.size wr D.world from D.holds)).cell (i := 3) rfl
          have p6 : ∀ D : Of (PastV wr), _ := fun D => (kp.out.keep (show Below wr.heap.size wr D.world from D.holds)).cell (i := 6) rfl
          have e0 : ∀ D : Of (PastV wr), _ := fun D => keepc (show Below wr.heap.size wr D.world from D.holds) (keepc hB E0.out)
          have e1 : ∀ D : Of (PastV wr), _ := fun D => keepc (show Below wr.heap.size wr D.world from D.holds) (keepc hB E1.out)
          have e2 : ∀ D : Of (PastV wr), _ := fun D => keepc (show Below wr.heap.size wr D.world from D.holds) (keepc hB E2.out)
          have e3 : ∀ D : Of (PastV wr), _ := fun D => keepc (show Below wr.heap.size wr D.world from D.holds) (keepc hB E3.out)
          have e4 : ∀ D : Of (PastV wr), _ := fun D => keepc (show Below wr.heap.size wr D.world from D.holds) (keepc hB E4.out)
          have e5 : ∀ D : Of (PastV wr), _ := fun D => keepc (show Below wr.heap.size wr D.world from D.holds) (keepc hB E5.out)
          have e6 : ∀ D : Of (PastV wr), _ := fun D => keepc (show Below wr.heap.size wr D.world from D.holds) (keepc hB E6.out)
          have e7 : ∀ D : Of (PastV wr), _ := fun D => keepc (show Below wr.heap.size wr D.world from D.holds) (keepc hB E7.out)
          have e8 : ∀ D : Of (PastV wr), _ := fun D => keepc (show Below wr.heap.size wr D.world from D.holds) (keepc hB E8.out)
          have ST := Lib.hid (pastV_stays wr)
          have ne : Nonempty (Of (PastV wr)) := ⟨⟨wr, Below.refl _ _⟩⟩
          go_upto_region 7 with fail
          refine wp_region_class (S := PastV wr) (by kernel_rfl) (by kernel_rfl) (Below.refl _ _).drew ?_
          repeat (go_big_quiet_step (first | (go_at_call 36; first | (with_reducible exact class_call ST.out _ (H.out _ _ _)))))
          refine wpQuiet_nil ?_
          rintro _ ⟨D, rfl⟩
          have hD : Below wr.heap.size wr D.world := D.holds
          go_wp2
          go_roundw
          case rel => exact ⟨2, by go_num, by omega, fun _ => A.out.1 (by omega), fun _ => by first | exact E.out | simp, fun h => absurd h (by omega), B0.out.trans (hD.mono B0.out.size)⟩
          case measure => simp [intOf]
        · have e0' : (x3 == x6) = false := by rw [beq_eq_false_iff_ne]; exact h0
          have n0 : (x3 != x6) = true := by rw [bne, e0']; rfl
          have HC := Lib.hid (fun W => H.out x3 x6 W)
          cases hh : hasB y0 y3 y6 x3 x6 with
          | false =>
            rw [hh] at HC
            have E : Hid (((x3 != x6) && hasB y0 y3 y6 x3 x6) = false) := Lib.hid (by rw [hh, Bool.and_false])
            clear HZ hh
            have m3 : ∀ D : Of (PastV wr), _ := fun D => (km.out.keep (show Below wr.heap.size wr D.world from D.holds)).cell (i := 3) rfl
            have p0 : ∀ D : Of (PastV wr), _ := fun D => (kp.out.keep (show Below wr.heap.size wr D.world from D.holds)).cell (i := 0) rfl
            have p3 : ∀ D : Of (PastV wr), _ := fun D => (kp.out.keep (show Below wr.heap.size wr D.world from D.holds)).cell (i := 3) rfl
            have p6 : ∀ D : Of (PastV wr), _ := fun D => (kp.out.keep (show Below wr.heap.size wr D.world from D.holds)).cell (i := 6) rfl
            have e0 : ∀ D : Of (PastV wr), _ := fun D => keepc (show Below wr.heap.size wr D.world from D.holds) (keepc hB E0.out)
            have e1 : ∀ D : Of (PastV wr), _ := fun D => keepc (show Below wr.heap.size wr D.world from D.holds) (keepc hB E1.out)
            have e2 : ∀ D : Of (PastV wr), _ := fun D => keepc (show Below wr.heap.size wr D.world from D.holds) (keepc hB E2.out)
            have e3 : ∀ D : Of (PastV wr), _ := fun D => keepc (show Below wr.heap.size wr D.world from D.holds) (keepc hB E3.out)
            have e4 : ∀ D : Of (PastV wr), _ := fun D => keepc (show Below wr.heap.size wr D.world from D.holds) (keepc hB E4.out)
            have e5 : ∀ D : Of (PastV wr), _ := fun D => keepc (show Below wr.heap.size wr D.world from D.holds) (keepc hB E5.out)
            have e6 : ∀ D : Of (PastV wr), _ := fun D => keepc (show Below wr.heap.size wr D.world from D.holds) (keepc hB E6.out)
            have e7 : ∀ D : Of (PastV wr), _ := fun D => keepc (show Below wr.heap.size wr D.world from D.holds) (keepc hB E7.out)
            have e8 : ∀ D : Of (PastV wr), _ := fun D => keepc (show Below wr.heap.size wr D.world from D.holds) (keepc hB E8.out)
            have ST := Lib.hid (pastV_stays wr)
            have ne : Nonempty (Of (PastV wr)) := ⟨⟨wr, Below.refl _ _⟩⟩
            go_upto_region 7 with fail
            refine wp_region_class (S := PastV wr) (by kernel_rfl) (by kernel_rfl) (Below.refl _ _).drew ?_
            repeat (go_big_quiet_step (first | (go_at_call 36; first | (with_reducible exact class_call ST.out _ (HC.out _)))))
            refine wpQuiet_nil ?_
            rintro _ ⟨D, rfl⟩
            have hD : Below wr.heap.size wr D.world := D.holds
            go_wp2
            go_roundw
            case rel => exact ⟨2, by go_num, by omega, fun _ => A.out.1 (by omega), fun _ => by first | exact E.out | simp, fun h => absurd h (by omega), B0.out.trans (hD.mono B0.out.size)⟩
            case measure => simp [intOf]
          | true =>
            rw [hh] at HC
            have E : Hid (z = true) := Lib.hid (by rw [HZ.out]; unfold nxE; rw [n0, hh, Bool.true_and, Bool.true_or, Bool.or_true])
            clear HZ A hh
            have m3 : ∀ D : Of (PastV wr), _ := fun D => (km.out.keep (show Below wr.heap.size wr D.world from D.holds)).cell (i := 3) rfl
            have p0 : ∀ D : Of (PastV wr), _ := fun D => (kp.out.keep (show Below wr.heap.size wr D.world from D.holds)).cell (i := 0) rfl
            have p3 : ∀ D : Of (PastV wr), _ := fun D => (kp.out.keep (show Below wr.heap.size wr D.world from D.holds)).cell (i := 3) rfl
            have p6 : ∀ D : Of (PastV wr), _ := fun D => (kp.out.keep (show Below wr.heap.size wr D.world from D.holds)).cell (i := 6) rfl
            have e0 : ∀ D : Of (PastV wr), _ := fun D => keepc (show Below wr.heap.size wr D.world from D.holds) (keepc hB E0.out)
            have e1 : ∀ D : Of (PastV wr), _ := fun D => keepc (show Below wr.heap.size wr D.world from D.holds) (keepc hB E1.out)
            have e2 : ∀ D : Of (PastV wr), _ := fun D => keepc (show Below wr.heap.size wr D.world from D.holds) (keepc hB E2.out)
            have e3 : ∀ D : Of (PastV wr), _ := fun D => keepc (show Below wr.heap.size wr D.world from D.holds) (keepc hB E3.out)
            have e4 : ∀ D : Of (PastV wr), _ := fun D => keepc (show Below wr.heap.size wr D.world from D.holds) (keepc hB E4.out)
            have e5 : ∀ D : Of (PastV wr), _ := fun D => keepc (show Below wr.heap.size wr D.world from D.holds) (keepc hB E5.out)
            have e6 : ∀ D : Of (PastV wr), _ := fun D => keepc (show Below wr.heap.size wr D.world from D.holds) (keepc hB E6.out)
            have e7 : ∀ D : Of (PastV wr), _ := fun D => keepc (show Below wr.heap.size wr D.world from D.holds) (keepc hB E7.out)
            have e8 : ∀ D : Of (PastV wr), _ := fun D => keepc (show Below wr.heap.size wr D.world from D.holds) (keepc hB E8.out)
            have ST := Lib.hid (pastV_stays wr)
            have ne : Nonempty (Of (PastV wr)) := ⟨⟨wr, Below.refl _ _⟩⟩
            go_upto_region 7 with fail
            refine wp_region_class (S := PastV wr) (by kernel_rfl) (by kernel_rfl) (Below.refl _ _).drew ?_
            repeat (go_big_quiet_step (first | (go_at_call 36; first | (with_reducible exact class_call ST.out _ (HC.out _)))))
            refine wpQuiet_nil ?_
            rintro _ ⟨D, rfl⟩
            have hD : Below wr.heap.size wr D.world := D.holds
            go_wp2
            go_ret
            exact ⟨by rw [E.out]; rfl, HB.out.trans (hD.mono HB.out.size)⟩
      · skip
        by_cases h0 : x6 = x0
        · have E : Hid (((x6 != x0) && hasB y0 y3 y6 x6 x0) = false) := Lib.hid (by rw [h0]; simp)
          clear HZ
          subst h0
          have m3 : ∀ D : Of (PastV wr), _ := fun D => (km.out.keep (show Below wr.heap.size wr D.world from D.holds)).cell (i := 3) rfl
          have p0 : ∀ D : Of (PastV wr), _ := fun D => (kp.out.keep (show Below wr.heap.size wr D.world from D.holds)).cell (i := 0) rfl
          have p3 : ∀ D : Of (PastV wr), _ := fun D => (kp.out.keep (show Below wr.heap.size wr D.world from D.holds)).cell (i := 3) rfl
          have p6 : ∀ D : Of (PastV wr), _ := fun D => (kp.out.keep (show Below wr.heap.size wr D.world from D.holds)).cell (i := 6) rfl
          have e0 : ∀ D : Of (PastV wr), _ := fun D => keepc (show Below wr.heap.size wr D.world from D.holds) (keepc hB E0.out)
          have e1 : ∀ D : Of (PastV wr), _ := fun D => keepc (show Below wr.heap.size wr D.world from D.holds) (keepc hB E1.out)
          have e2 : ∀ D : Of (PastV wr), _ := fun D => keepc (show Below wr.heap.size wr D.world from D.holds) (keepc hB E2.out)
          have e3 : ∀ D : Of (PastV wr), _ := fun D => keepc (show Below wr.heap.size wr D.world from D.holds) (keepc hB E3.out)
          have e4 : ∀ D : Of (PastV wr), _ := fun D => keepc (show Below wr.heap.size wr D.world from D.holds) (keepc hB E4.out)
          have e5 : ∀ D : Of (PastV wr), _ := fun D => keepc (show Below wr.heap.size wr D.world from D.holds) (keepc hB E5.out)
          have e6 : ∀ D : Of (PastV wr), _ := fun D => keepc (show Below wr.heap.size wr D.world from D.holds) (keepc hB E6.out)
          have e7 : ∀ D : Of (PastV wr), _ := fun D => keepc (show Below wr.heap.size wr D.world from D.holds) (keepc hB E7.out)
          have e8 : ∀ D : Of (PastV wr), _ := fun D => keepc (show Below wr.heap.size wr D.world from D.holds) (keepc hB E8.out)
          have ST := Lib.hid (pastV_stays wr)
          have ne : Nonempty (Of (PastV wr)) := ⟨⟨wr, Below.refl _ _⟩⟩
          go_upto_region 7 with fail
          refine wp_region_class (S := PastV wr) (by kernel_rfl) (by kernel_rfl) (Below.refl _ _).drew ?_
          repeat (go_big_quiet_step (first | (go_at_call 36; first | (with_reducible exact class_call ST.out _ (H.out _ _ _)))))
          refine wpQuiet_nil ?_
          rintro _ ⟨D, rfl⟩
          have hD : Below wr.heap.size wr D.world := D.holds
          go_wp2
          go_roundw
          case rel => exact ⟨3, by go_num, by omega, fun _ => A.out.1 (by omega), fun _ => A.out.2.1 (by omega), fun _ => by first | exact E.out | simp, B0.out.trans (hD.mono B0.out.size)⟩
          case measure => simp [intOf]
        · have e0' : (x6 == x0) = false := by rw [beq_eq_false_iff_ne]; exact h0
          have n0 : (x6 != x0) = true := by rw [bne, e0']; rfl
          have HC := Lib.hid (fun W => H.out x6 x0 W)
          cases hh : hasB y0 y3 y6 x6 x0 with
          | false =>
            rw [hh] at HC
            have E : Hid (((x6 != x0) && hasB y0 y3 y6 x6 x0) = false) := Lib.hid (by rw [hh, Bool.and_false])
            clear HZ hh
            have m3 : ∀ D : Of (PastV wr), _ := fun D => (km.out.keep (show Below wr.heap.size wr D.world from D.holds)).cell (i := 3) rfl
            have p0 : ∀ D : Of (PastV wr), _ := fun D => (kp.out.keep (show Below wr.heap.size wr D.world from D.holds)).cell (i := 0) rfl
            have p3 : ∀ D : Of (PastV wr), _ := fun D => (kp.out.keep (show Below wr.heap.size wr D.world from D.holds)).cell (i := 3) rfl
            have p6 : ∀ D : Of (PastV wr), _ := fun D => (kp.out.keep (show Below wr.heap.size wr D.world from D.holds)).cell (i := 6) rfl
            have e0 : ∀ D : Of (PastV wr), _ := fun D => keepc (show Below wr.heap.size wr D.world from D.holds) (keepc hB E0.out)
            have e1 : ∀ D : Of (PastV wr), _ := fun D => keepc (show Below wr.heap.size wr D.world from D.holds) (keepc hB E1.out)
            have e2 : ∀ D : Of (PastV wr), _ := fun D => keepc (show Below wr.heap.size wr D.world from D.holds) (keepc hB E2.out)
            have e3 : ∀ D : Of (PastV wr), _ := fun D => keepc (show Below wr.heap.size wr D.world from D.holds) (keepc hB E3.out)
            have e4 : ∀ D : Of (PastV wr), _ := fun D => keepc (show Below wr.heap.size wr D.world from D.holds) (keepc hB E4.out)
            have e5 : ∀ D : Of (PastV wr), _ := fun D => keepc (show Below wr.heap.size wr D.world from D.holds) (keepc hB E5.out)
            have e6 : ∀ D : Of (PastV wr), _ := fun D => keepc (show Below wr.heap.size wr D.world from D.holds) (keepc hB E6.out)
            have e7 : ∀ D : Of (PastV wr), _ := fun D => keepc (show Below wr.heap.size wr D.world from D.holds) (keepc hB E7.out)
            have e8 : ∀ D : Of (PastV wr), _ := fun D => keepc (show Below wr.heap.size wr D.world from D.holds) (keepc hB E8.out)
            have ST := Lib.hid (pastV_stays wr)
            have ne : Nonempty (Of (PastV wr)) := ⟨⟨wr, Below.refl _ _⟩⟩
            go_upto_region 7 with fail
            refine wp_region_class (S := PastV wr) (by kernel_rfl) (by kernel_rfl) (Below.refl _ _).drew ?_
            repeat (go_big_quiet_step (first | (go_at_call 36; first | (with_reducible exact class_call ST.out _ (HC.out _)))))
            refine wpQuiet_nil ?_
            rintro _ ⟨D, rfl⟩
            have hD : Below wr.heap.size wr D.world := D.holds
            go_wp2
            go_roundw
            case rel => exact ⟨3, by go_num, by omega, fun _ => A.out.1 (by omega), fun _ => A.out.2.1 (by omega), fun _ => by first | exact E.out | simp, B0.out.trans (hD.mono B0.out.size)⟩
            case measure => simp [intOf]
          | true =>
            rw [hh] at HC
            have E : Hid (z = true) := Lib.hid (by rw [HZ.out]; unfold nxE; rw [n0, hh, Bool.true_and, Bool.or_true, Bool.or_true])
            clear HZ A hh
            have m3 : ∀ D : Of (PastV wr), _ := fun D => (km.out.keep (show Below wr.heap.size wr D.world from D.holds)).cell (i := 3) rfl
            have p0 : ∀ D : Of (PastV wr), _ := fun D => (kp.out.keep (show Below wr.heap.size wr D.world from D.holds)).cell (i := 0) rfl
            have p3 : ∀ D : Of (PastV wr), _ := fun D => (kp.out.keep (show Below wr.heap.size wr D.world from D.holds)).cell (i := 3) rfl
            have p6 : ∀ D : Of (PastV wr), _ := fun D => (kp.out.keep (show Below wr.heap.size wr D.world from D.holds)).cell (i := 6) rfl
            have e0 : ∀ D : Of (PastV wr), _ := fun D => keepc (show Below wr.heap.size wr D.world from D.holds) (keepc hB E0.out)
            have e1 : ∀ D : Of (PastV wr), _ := fun D => keepc (show Below wr.heap.size wr D.world from D.holds) (keepc hB E1.out)
            have e2 : ∀ D : Of (PastV wr), _ := fun D => keepc (show Below wr.heap.size wr D.world from D.holds) (keepc hB E2.out)
            have e3 : ∀ D : Of (PastV wr), _ := fun D => keepc (show Below wr.heap.size wr D.world from D.holds) (keepc hB E3.out)
            have e4 : ∀ D : Of (PastV wr), _ := fun D => keepc (show Below wr.heap.size wr D.world from D.holds) (keepc hB E4.out)
            have e5 : ∀ D : Of (PastV wr), _ := fun D => keepc (show Below wr.heap.size wr D.world from D.holds) (keepc hB E5.out)
            have e6 : ∀ D : Of (PastV wr), _ := fun D => keepc (show Below wr.heap.size wr D.world from D.holds) (keepc hB E6.out)
            have e7 : ∀ D : Of (PastV wr), _ := fun D => keepc (show Below wr.heap.size wr D.world from D.holds) (keepc hB E7.out)
            have e8 : ∀ D : Of (PastV wr), _ := fun D => keepc (show Below wr.heap.size wr D.world from D.holds) (keepc hB E8.out)
            have ST := Lib.hid (pastV_stays wr)
            have ne : Nonempty (Of (PastV wr)) := ⟨⟨wr, Below.refl _ _⟩⟩
            go_upto_region 7 with fail
            refine wp_region_class (S := PastV wr) (by kernel_rfl) (by kernel_rfl) (Below.refl _ _).drew ?_
            repeat (go_big_quiet_step (first | (go_at_call 36; first | (with_reducible exact class_call ST.out _ (HC.out _)))))
            refine wpQuiet_nil ?_
            rintro _ ⟨D, rfl⟩
            have hD : Below wr.heap.size wr D.world := D.holds
            go_wp2
            go_ret
            exact ⟨by rw [E.out]; rfl, HB.out.trans (hD.mono HB.out.size)⟩
      · have E : Hid (z = false) := Lib.hid (by rw [HZ.out]; unfold nxE; rw [A.out.1 (by omega), A.out.2.1 (by omega), A.out.2.2 (by omega)]; rfl)
        go_wp2
        go_ret
        exact ⟨by rw [E.out]; rfl, HB.out⟩
end Go.Proofs.Ytkheomaihhcokaa
