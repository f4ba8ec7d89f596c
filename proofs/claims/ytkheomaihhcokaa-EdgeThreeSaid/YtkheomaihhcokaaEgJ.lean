/-
  The reference limewashref14: Edges. (gen/EgJ.py)
-/
import Derived.Test.YtkheomaihhcokaaGaD
import Derived.Test.YtkheomaihhcokaaEgD
namespace Go.Proofs.Ytkheomaihhcokaa
open Go.RowKit

/-- The places of the triangles that have an edge, rising. -/
def thL (F : Nat → Nat → Int) (a b : Int) : Nat → List Int
  | 0 => []
  | k + 1 => thL F a b k ++ (if hasB (F k 0) (F k 3) (F k 6) a b then [(k : Int)] else [])
theorem thL_len (F : Nat → Nat → Int) (a b : Int) : ∀ k, (thL F a b k).length ≤ k
  | 0 => Nat.le_refl 0
  | k + 1 => by
    have := thL_len F a b k
    show (thL F a b k ++ (if hasB (F k 0) (F k 3) (F k 6) a b then [(k : Int)] else [])).length ≤ k + 1
    rw [List.length_append]
    split
    · show _ + 1 ≤ _; omega
    · show _ + 0 ≤ _; omega
/-- The edges whose lesser place is a, up to some greater one; and all edges. -/
def ebL (F : Nat → Nat → Int) (n a : Nat) : Nat → List (Int × Int × List Int)
  | 0 => []
  | j + 1 => ebL F n a j ++ (if (thL F a ((a + 1 + j : Nat) : Int) n).length = 0 then [] else [((a : Int), ((a + 1 + j : Nat) : Int), thL F a ((a + 1 + j : Nat) : Int) n)])
def eaL (F : Nat → Nat → Int) (n m : Nat) : Nat → List (Int × Int × List Int)
  | 0 => []
  | a + 1 => eaL F n m a ++ ebL F n a (m - (a + 1))
theorem ebL_len (F : Nat → Nat → Int) (n a : Nat) : ∀ j, (ebL F n a j).length ≤ j
  | 0 => Nat.le_refl 0
  | j + 1 => by
    have := ebL_len F n a j
    show (ebL F n a j ++ (if _ then [] else [_])).length ≤ j + 1
    rw [List.length_append]
    split
    · show _ + 0 ≤ _; omega
    · show _ + 1 ≤ _; omega
theorem eaL_len (F : Nat → Nat → Int) (n m : Nat) : ∀ a, (eaL F n m a).length ≤ a * m
  | 0 => by show 0 ≤ _; omega
  | a + 1 => by
    have p := eaL_len F n m a
    have q := ebL_len F n a (m - (a + 1))
    show (eaL F n m a ++ ebL F n a (m - (a + 1))).length ≤ (a + 1) * m
    rw [List.length_append, Nat.add_mul]
    omega
def egA (t : Bool) (F : Nat → Nat → Int) (n m : Nat) : List (Int × Int × List Int) := if t then eaL F n m m else []
set_option maxRecDepth 100000 in
set_option maxHeartbeats 16000000 in
theorem redges_any (pa1 pa2 pa3 pa4 : Option Addr) (n1 n2 n3 n4 c1 c2 c3 c4 : Nat) (FV FT FN FC : Nat → Nat → Int) (w : World) (hm : MsW w pa1 pa2 pa3 pa4 n1 n2 n3 n4 FV FT FN FC) (h20 : n1 ≤ 20) :
    Calls Try.prog 12 #[.agg #[.slice pa1 n1 c1, .slice pa2 n2 c2, .slice pa3 n3 c3, .slice pa4 n4 c4]] w fun e w' => (∃ v Z, e = .returned (.tuple #[v, .int .i64 (agE (msB n1 n2 n3 n4 FV FT FN FC))]) ∧ OwnE w' w.heap.size v Z ∧ Z.map edC = egA (msB n1 n2 n3 n4 FV FT FN FC) FC n4 n1) ∧ Below w.heap.size w w' := by
  have HB := Lib.hid (Below.refl w.heap.size w)
  have M := Lib.hid hm
  have IS := Lib.hid (fun W (h : Below w.heap.size w W) => rmis_any pa1 pa2 pa3 pa4 n1 n2 n3 n4 c1 c2 c3 c4 FV FT FN FC W (hm.keep h))
  clear hm
  cases hr : msB n1 n2 n3 n4 FV FT FN FC with
  | false =>
    rw [hr] at IS
    clear hr
    rw [show agE false = 1 from rfl, show egA false FC n4 n1 = [] from rfl]
    go_enter Try.func12, Try.ntmps12
    go_upto_region 1 with fail
    have hbm := below_new1 w (.cells #[.slice pa1 n1 c1, .slice pa2 n2 c2, .slice pa3 n3 c3, .slice pa4 n4 c4] 26)
    have zm : (w.alloc (.cells #[.slice pa1 n1 c1, .slice pa2 n2 c2, .slice pa3 n3 c3, .slice pa4 n4 c4] 26)).heap.size = w.heap.size + 1 := by simp
    have HB := Lib.hid hbm
    have km := Lib.hid (Lok.new w 26 #[.slice pa1 n1 c1, .slice pa2 n2 c2, .slice pa3 n3 c3, .slice pa4 n4 c4])
    clear hbm
    generalize w.alloc (.cells #[.slice pa1 n1 c1, .slice pa2 n2 c2, .slice pa3 n3 c3, .slice pa4 n4 c4] 26) = Vm at *
    clear zm
    have m0 := km.out.cell (i := 0) rfl
    have m1 := km.out.cell (i := 1) rfl
    have m2 := km.out.cell (i := 2) rfl
    have m3 := km.out.cell (i := 3) rfl
    go_wp2_with fail
    clear m0 m1 m2 m3
    (((with_reducible refine (IS.out _ HB.out).mono ?_); rintro e w1 ⟨rfl, hb1⟩); replace HB := Lib.hid (HB.out.trans (hb1.mono HB.out.size)); replace km := Lib.hid (km.out.keep hb1); clear hb1)
    clear IS
    clear km
    go_wp2
    go_ret2
    exact ⟨⟨_, [], rfl, OwnE.nil _ _, rfl⟩, HB.out⟩
  | true =>
    rw [hr] at IS
    have h500 : n4 ≤ 500 := by
      unfold msB at hr
      rw [Bool.and_eq_true] at hr
      exact (shB_iff.1 hr.1).2
    clear hr
    rw [show agE true = 0 from rfl, show egA true FC n4 n1 = eaL FC n4 n1 n1 from rfl]
    have H := Lib.hid (fun x0 x1 x2 x3 x4 x5 x6 x7 x8 a b W => rhas_any x0 x1 x2 x3 x4 x5 x6 x7 x8 a b W)
    go_enter Try.func12, Try.ntmps12
    go_upto_region 1 with fail
    have hbm := below_new1 w (.cells #[.slice pa1 n1 c1, .slice pa2 n2 c2, .slice pa3 n3 c3, .slice pa4 n4 c4] 26)
    have zm : (w.alloc (.cells #[.slice pa1 n1 c1, .slice pa2 n2 c2, .slice pa3 n3 c3, .slice pa4 n4 c4] 26)).heap.size = w.heap.size + 1 := by simp
    have HB := Lib.hid hbm
    have km := Lib.hid (Lok.new w 26 #[.slice pa1 n1 c1, .slice pa2 n2 c2, .slice pa3 n3 c3, .slice pa4 n4 c4])
    clear hbm
    generalize w.alloc (.cells #[.slice pa1 n1 c1, .slice pa2 n2 c2, .slice pa3 n3 c3, .slice pa4 n4 c4] 26) = Vm at *
    clear zm
    have m0 := km.out.cell (i := 0) rfl
    have m1 := km.out.cell (i := 1) rfl
    have m2 := km.out.cell (i := 2) rfl
    have m3 := km.out.cell (i := 3) rfl
    go_wp2_with fail
    clear m0 m1 m2 m3
    (((with_reducible refine (IS.out _ HB.out).mono ?_); rintro e w1 ⟨rfl, hb1⟩); replace HB := Lib.hid (HB.out.trans (hb1.mono HB.out.size)); replace km := Lib.hid (km.out.keep hb1); clear hb1)
    clear IS
    have km0 := km
    have HB0 := HB
    clear km HB
    have m0 := km0.out.cell (i := 0) rfl
    go_wp2_with fail
    clear m0
    go_loopw [4, 5] (fun v x wr => ∃ (a : Nat) (Z : List EdZ), x = .int .i64 a ∧ a ≤ n1 ∧ OwnE wr w1.heap.size v Z ∧ Z.map edC = eaL FC n4 n1 a ∧ Below w1.heap.size w1 wr) (fun _ x _ => n1 - (intOf x).toNat)
    case atStart => exact ⟨0, [], rfl, Nat.zero_le _, OwnE.nil _ _, rfl, Below.refl _ _⟩
    case round =>
      obtain ⟨a, Z, rfl, ha, hO, hZ, hB⟩ := hrel
      have BW := Lib.hid hB
      have OW := Lib.hid hO
      have HZ := Lib.hid hZ
      have m0 := (km0.out.keep hB).cell (i := 0) rfl
      clear hB hO hZ
      by_cases hal : a < n1
      · have EA : Hid (eaL FC n4 n1 (a + 1) = eaL FC n4 n1 a ++ ebL FC n4 a (n1 - (a + 1))) := Lib.hid rfl
        have la : (eaL FC n4 n1 a).length ≤ 400 := Nat.le_trans (eaL_len FC n4 n1 a) (Nat.le_trans (Nat.mul_le_mul (show a ≤ 20 by omega) h20) (by decide))
        generalize eaL FC n4 n1 a = LA at *
        go_wp2_with fail
        clear m0
        go_loopw [4, 6] (fun v x wr => ∃ (b : Nat) (Z : List EdZ), x = .int .i64 b ∧ a + 1 ≤ b ∧ b ≤ n1 ∧ OwnE wr w1.heap.size v Z ∧ Z.map edC = LA ++ ebL FC n4 a (b - (a + 1)) ∧ Below w1.heap.size w1 wr) (fun _ x _ => n1 - (intOf x).toNat)
        case atStart => exact ⟨a + 1, Z, by go_num, Nat.le_refl _, hal, OW.out, by rw [Nat.sub_self, HZ.out]; exact (List.append_nil _).symm, BW.out⟩
        case round =>
          clear OW BW HZ
          obtain ⟨b, Z, rfl, hb1, hb2, hO, hZ, hB⟩ := hrel
          have BW := Lib.hid hB
          have OW := Lib.hid hO
          have HZ := Lib.hid hZ
          have m0 := (km0.out.keep hB).cell (i := 0) rfl
          have m3 := (km0.out.keep hB).cell (i := 3) rfl
          clear hB hO hZ
          by_cases hbl : b < n1
          · have EB : Hid (ebL FC n4 a (b + 1 - (a + 1)) = ebL FC n4 a (b - (a + 1)) ++ (if (thL FC a b n4).length = 0 then [] else [((a : Int), (b : Int), thL FC a b n4)])) := Lib.hid (by
              have e : a + 1 + (b - (a + 1)) = b := by omega
              rw [show b + 1 - (a + 1) = b - (a + 1) + 1 from by omega]
              show ebL FC n4 a (b - (a + 1)) ++ (if (thL FC a ((a + 1 + (b - (a + 1)) : Nat) : Int) n4).length = 0 then [] else [((a : Int), ((a + 1 + (b - (a + 1)) : Nat) : Int), thL FC a ((a + 1 + (b - (a + 1)) : Nat) : Int) n4)]) = _
              rw [e])
            have lb := ebL_len FC n4 a (b - (a + 1))
            have lz : Z.length ≤ 420 := by
              have := congrArg List.length HZ.out
              rw [List.length_map, List.length_append] at this
              omega
            generalize ebL FC n4 a (b - (a + 1)) = LB at *
            go_wp2_with fail
            clear m0 m3
            obtain ⟨w0, hw0⟩ : ∃ V, V = wr := ⟨_, rfl⟩
            rw [← hw0] at OW BW
            rw [← hw0]
            clear hw0
            go_loopw [7, 8] (fun v x wr => ∃ k : Nat, x = .int .i64 k ∧ k ≤ n4 ∧ OwnI wr w0.heap.size v (thL FC a b k) ∧ Below w0.heap.size w0 wr) (fun _ x _ => n4 - (intOf x).toNat)
            case atStart => exact ⟨0, rfl, Nat.zero_le _, OwnI.nil _ _, Below.refl _ _⟩
            case round =>
              obtain ⟨k, rfl, hk, hO, hB⟩ := hrel
              have B0 := Lib.hid hB
              have HB := Lib.hid (HB0.out.trans ((BW.out.trans (hB.mono BW.out.size)).mono HB0.out.size))
              have OI := Lib.hid hO
              have m0 := (km0.out.keep (BW.out.trans (hB.mono BW.out.size))).cell (i := 0) rfl
              have m3 := (km0.out.keep (BW.out.trans (hB.mono BW.out.size))).cell (i := 3) rfl
              clear hB hO
              by_cases hkl : k < n4
              · obtain ⟨p, o, rfl, hp, hc⟩ := ((M.out.keep HB.out).1.2.2.2).at hkl
                have d0 := hc k hkl 0 (by omega)
                have d1 := hc k hkl 1 (by omega)
                have d2 := hc k hkl 2 (by omega)
                have d3 := hc k hkl 3 (by omega)
                have d4 := hc k hkl 4 (by omega)
                have d5 := hc k hkl 5 (by omega)
                have d6 := hc k hkl 6 (by omega)
                have d7 := hc k hkl 7 (by omega)
                have d8 := hc k hkl 8 (by omega)
                rw [Nat.add_zero] at d0
                rw [← Nat.add_assoc] at d1 d2 d3 d4 d5 d6 d7 d8
                have TE : Hid (thL FC a b (k + 1) = thL FC a b k ++ (if hasB (FC k 0) (FC k 3) (FC k 6) a b then [(k : Int)] else [])) := Lib.hid rfl
                have lt := thL_len FC a b k
                clear hc
                generalize FC k 0 = x0 at *
                generalize FC k 1 = x1 at *
                generalize FC k 2 = x2 at *
                generalize FC k 3 = x3 at *
                generalize FC k 4 = x4 at *
                generalize FC k 5 = x5 at *
                generalize FC k 6 = x6 at *
                generalize FC k 7 = x7 at *
                generalize FC k 8 = x8 at *
                generalize thL FC a b k = LK at *
                have i0 : (0 : Int) ≤ (k : Int) := by omega
                have i1 : (k : Int) < (n4 : Int) := by omega
                have i2 : ((k : Int)).toNat = k := by omega
                go_wp2_with fail
                ((with_reducible refine (H.out _ _ _ _ _ _ _ _ _ _ _ _).mono ?_); rintro e w5 ⟨rfl, hb5⟩)
                replace B0 := Lib.hid (B0.out.trans (hb5.mono B0.out.size))
                replace OI := Lib.hid (OI.out.keep hb5)
                clear hb5 HB m0 m3 d0 d1 d2 d3 d4 d5 d6 d7 d8
                cases hh : hasB x0 x3 x6 a b with
                | false =>
                  rw [hh] at TE
                  have E : Hid (thL FC a b (k + 1) = LK) := Lib.hid (by rw [TE.out]; exact List.append_nil _)
                  clear TE hh
                  go_wp2
                  go_roundw
                  case rel => exact ⟨k + 1, by go_num, hkl, by rw [E.out]; exact OI.out, B0.out⟩
                  case measure => simp [intOf]; omega
                | true =>
                  rw [hh] at TE
                  have E : Hid (thL FC a b (k + 1) = LK ++ [(k : Int)]) := Lib.hid (by rw [TE.out]; rfl)
                  clear TE hh
                  have hk1 : (LK.length + 1) * 8 ≤ 140737488355328 := by omega
                  have hk2 : LK.length ≤ 1000000 := by omega
                  have hbs := B0.out.size
                  have hO := OI.out
                  unfold OwnI at hO
                  go_wp2_with (at_builtin; refine app_one rfl _ _ 34 3 (.int .i64 0) 1 8 Try.underlying34 infoI rfl (by decide) rfl w0.heap.size u7 LK.length (LK.map (Value.int .i64)) [.int .i64 (k : Int)] rfl (fun u hu => by rw [List.mem_singleton] at hu; subst hu; rfl) rfl hO rfl hk1 hk2 hbs ?_)
                  intro v2 w6 own6 hb6
                  have OI2 : Hid (OwnI w6 w0.heap.size v2 (LK ++ [(k : Int)])) := Lib.hid (by
                    unfold OwnI
                    rw [List.length_append, List.map_append]
                    exact own6)
                  replace B0 := Lib.hid (B0.out.trans hb6)
                  clear own6 hb6 OI hO
                  go_wp2
                  go_roundw
                  case rel => exact ⟨k + 1, by go_num, hkl, by rw [E.out]; exact OI2.out, B0.out⟩
                  case measure => simp [intOf]; omega
              · obtain rfl : k = n4 := by omega
                have OE := Lib.hid (OW.out.keep B0.out)
                have BZ := Lib.hid (BW.out.trans (B0.out.mono BW.out.size))
                have AP := Lib.hid (ownBlock_apart OW.out.1 OI.out (Nat.le_refl _))
                have HT := Lib.hid (ownI_mono OI.out BW.out.size)
                have NZ : Hid (∀ a' n' c', u7 = .slice a' n' c' → n' = (thL FC a b k).length) := Lib.hid (fun a' n' c' e => by
                  obtain ⟨a2, c2, e2, _⟩ := rowI_of_own OI.out
                  rw [e] at e2
                  cases e2; rfl)
                obtain ⟨aQ, nQ, cQ, hv⟩ := ownI_slice OI.out
                subst hv
                have HN := Lib.hid (NZ.out _ _ _ rfl)
                clear NZ OI
                generalize hth : thL FC a b k = LT at *
                have HTH := Lib.hid hth
                clear hth
                by_cases hq : nQ = 0
                · have hq2 : ¬ (0 : Int) < (nQ : Int) := by omega
                  have hq3 : ¬ 0 < nQ := by omega
                  have E : Hid (ebL FC k a (b + 1 - (a + 1)) = LB) := Lib.hid (by rw [EB.out, if_pos (by rw [← HN.out]; exact hq)]; exact List.append_nil _)
                  clear hq m0
                  go_wp2
                  go_roundw
                  case rel => exact ⟨b + 1, Z, by go_num, by omega, hbl, OE.out, by rw [E.out]; exact HZ.out, BZ.out⟩
                  case measure => simp [intOf]; omega
                · have hq2 : (0 : Int) < (nQ : Int) := by omega
                  have hq3 : 0 < nQ := by omega
                  have E : Hid (ebL FC k a (b + 1 - (a + 1)) = LB ++ [((a : Int), (b : Int), LT)]) := Lib.hid (by rw [EB.out, if_neg (by rw [← HN.out]; exact hq)])
                  clear hq m0
                  have ht := HT.out
                  have hO := OE.out
                  have hbs := BZ.out.size
                  go_wp2_with (at_builtin; refine app_edge rfl _ _ rfl w1.heap.size u4 Z rfl hO (a : Int) (b : Int) LT _ rfl ht AP.out (by omega) hbs ?_)
                  intro v6 w6 hO6 hb6
                  replace BZ := Lib.hid (BZ.out.trans hb6)
                  have O6 := Lib.hid hO6
                  clear hO6 hb6 ht hO OE HT AP
                  go_wp2
                  go_roundw
                  case rel => exact ⟨b + 1, _, by go_num, by omega, hbl, O6.out, by rw [E.out, List.map_append, HZ.out, List.append_assoc]; rfl, BZ.out⟩
                  case measure => simp [intOf]; omega
          · obtain rfl : b = n1 := by omega
            clear m3
            go_wp2
            go_roundw
            case rel => exact ⟨a + 1, Z, by go_num, hal, OW.out, by rw [EA.out]; exact HZ.out, BW.out⟩
            case measure => simp [intOf]; omega
      · obtain rfl : a = n1 := by omega
        have HO := Lib.hid (OW.out.mono HB0.out.size)
        have BZ := Lib.hid (HB0.out.trans (BW.out.mono HB0.out.size))
        go_wp2
        go_ret2
        exact ⟨⟨_, Z, rfl, HO.out, HZ.out⟩, BZ.out⟩
end Go.Proofs.Ytkheomaihhcokaa
