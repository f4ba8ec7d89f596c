/-
  The program's package edge: the closure of neighbours.
-/
import Derived.Test.YtkheomaihhcokaaEcG
namespace Go.Proofs.Ytkheomaihhcokaa
open Go.RowKit

theorem own_cat {w : World} {base : Nat} {v : Value} {A B : List Int} (h : w.ownsRow base 3 1 v (A.length + B.length) (valsK (A.length + B.length) 1 (catK A.length (fun i _ => A.getD i 0) (fun i _ => B.getD i 0)))) : OwnI w base v (A ++ B) := by
  rw [← valsK_cat, ← map_vals, ← map_vals] at h
  unfold OwnI
  rw [List.length_append, List.map_append]
  exact h
set_option maxRecDepth 100000 in
set_option maxHeartbeats 16000000 in
theorem nbr_any (pa1 pa2 pa3 pa4 : Option Addr) (n1 n2 n3 n4 c1 c2 c3 c4 : Nat) (FV FT FN FC : Nat → Nat → Int) (i gm gk b base : Nat) (w : World) (hm : MsW w pa1 pa2 pa3 pa4 n1 n2 n3 n4 FV FT FN FC) (hi : i < n4) (hF : ∀ i, i < n4 → ∀ j, j = 0 ∨ j = 3 ∨ j = 6 → 0 ≤ FC i j ∧ FC i j < 2000) (h4 : n4 ≤ 1000)
    (hG : MapG w base b (fun _ => False) (ownS FC n4)) (hgm : Lok w gm 26 #[.slice pa1 n1 c1, .slice pa2 n2 c2, .slice pa3 n3 c3, .slice pa4 n4 c4]) (hgk : Lok w gk 55 #[.map (some b)]) :
    Calls Try.prog 54 #[.int .i64 i, .pointer (some ⟨gm, 0, none⟩), .pointer (some ⟨gk, 0, none⟩)] w fun e w' => (∃ v, e = .returned v ∧ OwnI w' w.heap.size v (nxL FC i n4)) ∧ Below w.heap.size w w' := by
  obtain ⟨iI, hI, hz0, hz1, hz2⟩ := info_parts infoI
  have HB := Lib.hid (Below.refl w.heap.size w)
  have HM := Lib.hid hm
  have MG := Lib.hid hG
  have km := Lib.hid hgm
  have kk := Lib.hid hgk
  have CN := Lib.hid (ct_next (F := FC) (n := n4) (i := i))
  have hx := hF i hi 0 (.inl rfl)
  have hy := hF i hi 3 (.inr (.inl rfl))
  have hz := hF i hi 6 (.inr (.inr rfl))
  have OK := Lib.hid (fun (q : Int × Int) (h : q ∈ sdL (FC i 0) (FC i 3) (FC i 6)) => sdL_ok h hx hy hz)
  clear hm hG hgm hgk hx hy hz hF
  have SD := Lib.hid (fun W => sides_any (FC i 0) (FC i 1) (FC i 2) (FC i 3) (FC i 4) (FC i 5) (FC i 6) (FC i 7) (FC i 8) W)
  have hll := sdL_len (FC i 0) (FC i 3) (FC i 6)
  obtain ⟨p, o, rfl, hp, hc⟩ := (HM.out.1.2.2.2).at hi
  have d0 := hc i hi 0 (by omega)
  have d1 := hc i hi 1 (by omega)
  have d2 := hc i hi 2 (by omega)
  have d3 := hc i hi 3 (by omega)
  have d4 := hc i hi 4 (by omega)
  have d5 := hc i hi 5 (by omega)
  have d6 := hc i hi 6 (by omega)
  have d7 := hc i hi 7 (by omega)
  have d8 := hc i hi 8 (by omega)
  rw [Nat.add_zero] at d0
  rw [← Nat.add_assoc] at d1 d2 d3 d4 d5 d6 d7 d8
  clear hc
  generalize sdL (FC i 0) (FC i 3) (FC i 6) = L at *
  generalize FC i 0 = x0 at *
  generalize FC i 1 = x1 at *
  generalize FC i 2 = x2 at *
  generalize FC i 3 = x3 at *
  generalize FC i 4 = x4 at *
  generalize FC i 5 = x5 at *
  generalize FC i 6 = x6 at *
  generalize FC i 7 = x7 at *
  generalize FC i 8 = x8 at *
  have i0 : (0 : Int) ≤ (i : Int) := by omega
  have i1 : (i : Int) < (n4 : Int) := by omega
  have i2 : ((i : Int)).toNat = i := by omega
  go_enter Try.func54, Try.ntmps54
  go_upto_region 1 with fail
  have hbt := Lib.hid ((Below.refl w.heap.size w).alloc (Nat.le_refl _) (.cells #[.int .i64 i] 3))
  have DD := Lib.hid (fun (a : Addr) (v : Value) (ha : a.block < w.heap.size) (hv : w.cell? a = some v) => (hbt.out.cell (p := a) ha).trans hv)
  have hbt := below_new1 w (.cells #[.int .i64 i] 3)
  replace MG := Lib.hid (MG.out.keep hbt)
  replace km := Lib.hid (km.out.keep hbt)
  replace kk := Lib.hid (kk.out.keep hbt)
  have zt : (w.alloc (.cells #[.int .i64 i] 3)).heap.size = w.heap.size + 1 := by simp
  have HB := Lib.hid hbt
  have kt := Lib.hid (Lok.new w 3 #[.int .i64 i])
  clear hbt
  generalize w.alloc (.cells #[.int .i64 i] 3) = Vt at *
  have e0 := DD.out _ _ hp d0
  have e1 := DD.out _ _ hp d1
  have e2 := DD.out _ _ hp d2
  have e3 := DD.out _ _ hp d3
  have e4 := DD.out _ _ hp d4
  have e5 := DD.out _ _ hp d5
  have e6 := DD.out _ _ hp d6
  have e7 := DD.out _ _ hp d7
  have e8 := DD.out _ _ hp d8
  clear DD d0 d1 d2 d3 d4 d5 d6 d7 d8
  have hwt : w.heap.size ≤ Vt.heap.size := by rw [zt]; omega
  clear zt
  generalize hgt : w.heap.size = gt at *
  have t0 := kt.out.cell (i := 0) rfl
  have m3 := km.out.cell (i := 3) rfl
  go_wp2_with fail
  ((with_reducible refine (SD.out Vt).mono ?_); rintro e w5 ⟨⟨v5, rfl, hO5⟩, hb5⟩)
  clear t0 m3 e0 e1 e2 e3 e4 e5 e6 e7 e8 SD
  replace HB := Lib.hid (HB.out.trans (hb5.mono (by rw [← hgt] at hwt ⊢; exact HB.out.size)))
  replace MG := Lib.hid (MG.out.keep hb5)
  replace kt := Lib.hid (kt.out.keep hb5)
  replace kk := Lib.hid (kk.out.keep hb5)
  obtain ⟨aL, cL, rfl, -, -, -, hR5⟩ := rowP_of_own hO5
  have RP := Lib.hid hR5
  have hgtl := kt.out.lt
  clear hb5 hO5 hR5 km hbt hp
  go_wp2_with fail
  go_loopw [5, 15] (fun v x wr => ∃ j : Nat, x = .int .i64 j ∧ j ≤ L.length ∧ OwnI wr w5.heap.size v (ctL FC n4 L j) ∧ Below w5.heap.size w5 wr) (fun _ x _ => L.length - (intOf x).toNat)
  case atStart => exact ⟨0, rfl, Nat.zero_le _, OwnI.nil _ _, Below.refl _ _⟩
  case round =>
    obtain ⟨j, rfl, hj, hO, hB⟩ := hrel
    have BV := Lib.hid hB
    have hB1 := Lib.hid hB
    have OI := Lib.hid hO
    have hcl := ct_len (F := FC) (n := n4) (L := L) j
    have hcl2 : (ctL FC n4 L j).length ≤ 3000 := Nat.le_trans hcl (Nat.le_trans (Nat.mul_le_mul (show j ≤ 3 by omega) h4) (by decide))
    clear hB hO hcl
    by_cases hjl : j < L.length
    · obtain ⟨q, oq, x, y, rfl, hq, hL, hx, hy⟩ := (RP.out.keep BV.out).at hjl
      have hok : okK x y := OK.out (x, y) (List.mem_of_getElem? hL)
      have SJ : Hid (ctL FC n4 L (j + 1) = ctL FC n4 L j ++ ownS FC n4 x y) := Lib.hid (by
        show ctL FC n4 L j ++ ownS FC n4 (L.getD j (0, 0)).1 (L.getD j (0, 0)).2 = _
        rw [List.getD_eq_getElem?_getD, hL]; rfl)
      have hlen : (ownS FC n4 x y).length ≤ n4 := by
        unfold ownS
        split
        · exact thL_len FC x y n4
        · simp
      clear hL
      generalize ctL FC n4 L j = C at *
      have j0 : (0 : Int) ≤ (j : Int) := by omega
      have j1 : (j : Int) < (L.length : Int) := by omega
      have j2 : ((j : Int)).toNat = j := by omega
      go_upto_region 5 with fail
      have hbs := Lib.hid ((Below.refl w5.heap.size wr).alloc BV.out.size (.cells #[.int .i64 x, .int .i64 y] 58))
      replace BV := Lib.hid (BV.out.trans hbs.out)
      clear hbs
      clear HB
      have HB := hB1
      have hbs := below_new1 wr (.cells #[.int .i64 x, .int .i64 y] 58)
      replace OI := Lib.hid (OI.out.keep hbs)
      have zs : (wr.alloc (.cells #[.int .i64 x, .int .i64 y] 58)).heap.size = wr.heap.size + 1 := by simp
      replace HB := Lib.hid (HB.out.trans (hbs.mono HB.out.size))
      have ks := Lib.hid (Lok.new wr 58 #[.int .i64 x, .int .i64 y])
      clear hbs
      generalize wr.alloc (.cells #[.int .i64 x, .int .i64 y] 58) = Vs at *
      clear zs hx hy
      generalize wr.heap.size = gs at *
      have s0 := ks.out.cell (i := 0) rfl
      have s1 := ks.out.cell (i := 1) rfl
      have MG1 := MG.out.keep BV.out
      have k0 := (kk.out.keep BV.out).cell (i := 0) rfl
      go_wp2_with (refine wpList_lookG rfl _ _ rfl (base := base) (b := b) (N := fun _ => False) (S := ownS FC n4) (p := x) (q := y) rfl rfl MG1 hok ?_)
      intro vq hOq
      obtain ⟨aq, cq, rfl, ha, hn1, hn2, hRq⟩ := rowI_of_own hOq
      generalize ownS FC n4 x y = D at *
      have own0 : Vs.ownsRow w5.heap.size 3 1 u5 C.length (valsK C.length 1 (fun i _ => C.getD i 0)) := by rw [← map_vals]; exact OI.out
      have OW := Lib.hid own0
      have HA := Lib.hid ha
      have RQ := Lib.hid hRq.2
      have q1 : C.length + D.length ≤ maxLen := by unfold maxLen; omega
      have q2 : (C.length + D.length) * 8 ≤ 140737488355328 := by omega
      have q3 := BV.out.size
      clear own0 ha hRq hOq MG1 k0 hn1 hn2
      go_wp2_with (at_builtin; refine wpList_append_catk rfl _ _ 34 rfl w5.heap.size 3 iI (.int .i64 0) 1 8 Try.underlying34 hI hz0 hz1 hz2 rfl (by decide) u5 C.length (fun i _ => C.getD i 0) rfl OW.out aq D.length cq (fun i _ => D.getD i 0) rfl HA.out RQ.out q1 q2 q3 ?_)
      intro v1 w1 own1 hb1
      have O1 := Lib.hid (own_cat own1)
      replace BV := Lib.hid (BV.out.trans hb1)
      clear own1 hb1 OW HA RQ
      go_wp2
      go_roundw
      case rel => exact ⟨j + 1, by go_num, hjl, by rw [SJ.out]; exact O1.out, BV.out⟩
      case measure => simp [intOf]; omega
    · obtain rfl : j = L.length := by omega
      generalize ctL FC n4 L L.length = C at *
      have SO := Lib.hid (sort_own w5.heap.size u5 C wr OI.out (by omega))
      clear OI
      go_wp2_with fail
      ((with_reducible refine SO.out.mono ?_); rintro e w6 ⟨rfl, hO6, hg6⟩)
      have hbl : ∀ {W : World} {M : List Int}, OwnI W w5.heap.size u5 M → ∀ g, u5.ownBlock = some g → w5.heap.size ≤ g := fun h g hg => (World.ownsRow.lt h g hg).1
      have BV6 := Lib.hid (BV.out.grown hg6 BV.out.size (hbl hO6))
      have hl6 : (C.mergeSort fun x y => decide (x ≤ y)).length ≤ 3000 := by rw [List.length_mergeSort]; exact hcl2
      generalize (C.mergeSort fun x y => decide (x ≤ y)) = M at *
      have CO := Lib.hid (compact_own w5.heap.size u5 M w6 hO6 (by omega))
      clear SO hg6
      go_wp2_with fail
      ((with_reducible refine CO.out.mono ?_); rintro e w7 ⟨v7, rfl, hO7, hg7, hb7⟩)
      have BV7 := Lib.hid (BV6.out.grown hg7 BV6.out.size (hbl hO6))
      have hl7 := Lib.compact_length_le M
      generalize Lib.compact M = K at *
      have k7 := kt.out.keep BV7.out
      have DO := Lib.hid (delete_own w5.heap.size v7 K gt i w7 hO7 (by omega) (k7.cell (i := 0) rfl) k7.lt (fun g hg e => by have := (World.ownsRow.lt hO7 g hg).1; omega))
      have O7 := Lib.hid hO7
      clear CO hg7 hO7 hO6 hb7 k7 hbl
      go_wp2_with fail
      ((with_reducible refine DO.out.mono ?_); rintro e w8 ⟨v8, rfl, hO8, hg8⟩)
      have BV8 := Lib.hid (BV7.out.grown hg8 BV7.out.size (fun g hg => (World.ownsRow.lt O7.out g hg).1))
      have O8 := Lib.hid hO8
      clear DO hg8 hO8
      go_wp2
      go_ret
      exact ⟨⟨_, rfl, by rw [← CN.out, hgt]; exact ownI_mono O8.out (by omega)⟩, by rw [hgt]; exact HB.out.trans (BV8.out.mono (by omega))⟩
end Go.Proofs.Ytkheomaihhcokaa
