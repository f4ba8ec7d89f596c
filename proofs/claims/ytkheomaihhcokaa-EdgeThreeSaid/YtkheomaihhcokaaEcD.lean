/-
  The program's package edge: owners.
-/
import Derived.Test.YtkheomaihhcokaaGaE
namespace Go.Proofs.Ytkheomaihhcokaa
open Go.RowKit

theorem Lok.grown {W W' : World} {g : Nat} {t : TypeId} {cs : Array Value} {row : Option Nat} (h : Lok W g t cs) (hg : W.grownBy W' row) (hn : row ≠ some g) : Lok W' g t cs := (hg.block g h.lt (fun e => hn e.symm)).trans h
theorem OwnP.grown {W W' : World} {base : Nat} {row : Option Nat} {v : Value} {L : List (Int × Int)} (h : OwnP W base v L) (hg : W.grownBy W' row) (hn : ∀ g, v.ownBlock = some g → row ≠ some g) : OwnP W' base v L :=
  World.ownsRow.kept h hg (by
    cases e : v.ownBlock with
    | none => exact .inl rfl
    | some g => exact .inr (fun q => hn g e q.symm))
set_option maxRecDepth 100000 in
set_option maxHeartbeats 16000000 in
theorem owners_any (pa1 pa2 pa3 pa4 : Option Addr) (n1 n2 n3 n4 c1 c2 c3 c4 : Nat) (FV FT FN FC : Nat → Nat → Int) (w : World) (hm : MsW w pa1 pa2 pa3 pa4 n1 n2 n3 n4 FV FT FN FC) (hF : ∀ i, i < n4 → ∀ j, j = 0 ∨ j = 3 ∨ j = 6 → 0 ≤ FC i j ∧ FC i j < 2000) (h4 : n4 ≤ 1000) :
    Calls Try.prog 30 #[.agg #[.slice pa1 n1 c1, .slice pa2 n2 c2, .slice pa3 n3 c3, .slice pa4 n4 c4]] w fun e w' => (∃ b base, e = .returned (.map (some b)) ∧ w.heap.size ≤ b ∧ MapG w' base b (fun _ => False) (ownS FC n4)) ∧ Below w.heap.size w w' := by
  obtain ⟨iI, hi, hz0, hz1, hz2⟩ := info_parts infoI
  have HB := Lib.hid (Below.refl w.heap.size w)
  have HM := Lib.hid hm
  have HF := Lib.hid hF
  clear hm hF
  have hmm := @run_makeMap Try.prog
  go_enter Try.func30, Try.ntmps30
  go_upto_region 1 with fail
  have hbm := below_new1 w (.cells #[.slice pa1 n1 c1, .slice pa2 n2 c2, .slice pa3 n3 c3, .slice pa4 n4 c4] 26)
  have zm : (w.alloc (.cells #[.slice pa1 n1 c1, .slice pa2 n2 c2, .slice pa3 n3 c3, .slice pa4 n4 c4] 26)).heap.size = w.heap.size + 1 := by simp
  have HB := Lib.hid hbm
  have km := Lib.hid (Lok.new w 26 #[.slice pa1 n1 c1, .slice pa2 n2 c2, .slice pa3 n3 c3, .slice pa4 n4 c4])
  clear hbm
  generalize w.alloc (.cells #[.slice pa1 n1 c1, .slice pa2 n2 c2, .slice pa3 n3 c3, .slice pa4 n4 c4] 26) = Vm at *
  have hwm : w.heap.size < Vm.heap.size := km.out.lt
  clear zm
  go_upto_region 2 with fail
  have MG := Lib.hid (MapG.made Vm)
  have hbm : Below Vm.heap.size Vm (Vm.alloc (.map #[] 0)) := (Below.refl _ _).alloc (Nat.le_refl _) _
  replace HB := Lib.hid (HB.out.trans (hbm.mono HB.out.size))
  replace km := Lib.hid (km.out.keep hbm)
  clear hbm hmm
  generalize Vm.alloc (.map #[] 0) = V0 at *
  generalize Vm.heap.size = bm at *
  have m3 := km.out.cell (i := 3) rfl
  go_wp2_with fail
  clear m3
  go_loopw [12] (fun x wr => ∃ k : Nat, x = .int .i64 k ∧ k ≤ n4 ∧ MapG wr (bm + 1) bm (fun _ => False) (ownS FC k) ∧ Below w.heap.size w wr) (fun x _ => n4 - (intOf x).toNat)
  case atStart => exact ⟨0, rfl, Nat.zero_le _, by rw [show ownS FC 0 = fun _ _ => [] from by funext a c; unfold ownS; split <;> rfl]; exact MG.out, HB.out⟩
  case round =>
    clear HB MG
    obtain ⟨k, rfl, hk, hG, hB⟩ := hrel
    have HB := Lib.hid hB
    have MG := Lib.hid hG
    clear hB hG
    by_cases hlt : k < n4
    · obtain ⟨p, o, rfl, hp, hc⟩ := ((HM.out.keep HB.out).1.2.2.2).at hlt
      have d0 := hc k hlt 0 (by omega)
      have d1 := hc k hlt 1 (by omega)
      have d2 := hc k hlt 2 (by omega)
      have d3 := hc k hlt 3 (by omega)
      have d4 := hc k hlt 4 (by omega)
      have d5 := hc k hlt 5 (by omega)
      have d6 := hc k hlt 6 (by omega)
      have d7 := hc k hlt 7 (by omega)
      have d8 := hc k hlt 8 (by omega)
      rw [Nat.add_zero] at d0
      rw [← Nat.add_assoc] at d1 d2 d3 d4 d5 d6 d7 d8
      have hx := HF.out k hlt 0 (.inl rfl)
      have hy := HF.out k hlt 3 (.inr (.inl rfl))
      have hz := HF.out k hlt 6 (.inr (.inr rfl))
      have SA := Lib.hid (sdN_all FC k)
      have SL := Lib.hid (fun (j : Nat) (a c : Int) (h : j ≤ (sdL (FC k 0) (FC k 3) (FC k 6)).length) => sdN_len (a := a) (c := c) h)
      have OK := Lib.hid (fun (q : Int × Int) (h : q ∈ sdL (FC k 0) (FC k 3) (FC k 6)) => sdL_ok h hx hy hz)
      have S0 : Hid (∀ L, sdN (ownS FC k) k L 0 = ownS FC k) := Lib.hid (fun _ => rfl)
      clear hc hx hy hz
      have i0 : (0 : Int) ≤ (k : Int) := by omega
      have i1 : (k : Int) < (n4 : Int) := by omega
      have i2 : ((k : Int)).toNat = k := by omega
      have SD := Lib.hid (fun W => sides_any (FC k 0) (FC k 1) (FC k 2) (FC k 3) (FC k 4) (FC k 5) (FC k 6) (FC k 7) (FC k 8) W)
      have hll := sdL_len (FC k 0) (FC k 3) (FC k 6)
      generalize sdL (FC k 0) (FC k 3) (FC k 6) = L at *
      generalize FC k 0 = x0 at *
      generalize FC k 1 = x1 at *
      generalize FC k 2 = x2 at *
      generalize FC k 3 = x3 at *
      generalize FC k 4 = x4 at *
      generalize FC k 5 = x5 at *
      generalize FC k 6 = x6 at *
      generalize FC k 7 = x7 at *
      generalize FC k 8 = x8 at *
      go_upto_region 5 with fail
      have hbt := below_new1 wr (.cells #[.int .i64 x0, .int .i64 x1, .int .i64 x2, .int .i64 x3, .int .i64 x4, .int .i64 x5, .int .i64 x6, .int .i64 x7, .int .i64 x8] 51)
      replace MG := Lib.hid (MG.out.keep hbt)
      have zt : (wr.alloc (.cells #[.int .i64 x0, .int .i64 x1, .int .i64 x2, .int .i64 x3, .int .i64 x4, .int .i64 x5, .int .i64 x6, .int .i64 x7, .int .i64 x8] 51)).heap.size = wr.heap.size + 1 := by simp
      replace HB := Lib.hid (HB.out.trans (hbt.mono HB.out.size))
      have kt := Lib.hid (Lok.new wr 51 #[.int .i64 x0, .int .i64 x1, .int .i64 x2, .int .i64 x3, .int .i64 x4, .int .i64 x5, .int .i64 x6, .int .i64 x7, .int .i64 x8])
      clear hbt
      generalize wr.alloc (.cells #[.int .i64 x0, .int .i64 x1, .int .i64 x2, .int .i64 x3, .int .i64 x4, .int .i64 x5, .int .i64 x6, .int .i64 x7, .int .i64 x8] 51) = Vt at *
      clear zt d0 d1 d2 d3 d4 d5 d6 d7 d8
      generalize wr.heap.size = gt at *
      have t0 := kt.out.cell (i := 0) rfl
      have t1 := kt.out.cell (i := 1) rfl
      have t2 := kt.out.cell (i := 2) rfl
      have t3 := kt.out.cell (i := 3) rfl
      have t4 := kt.out.cell (i := 4) rfl
      have t5 := kt.out.cell (i := 5) rfl
      have t6 := kt.out.cell (i := 6) rfl
      have t7 := kt.out.cell (i := 7) rfl
      have t8 := kt.out.cell (i := 8) rfl
      go_wp2_with fail
      ((with_reducible refine (SD.out Vt).mono ?_); rintro e w5 ⟨⟨v5, rfl, hO5⟩, hb5⟩)
      clear t0 t1 t2 t3 t4 t5 t6 t7 t8 kt SD
      have OP := Lib.hid hO5
      obtain ⟨N, hN⟩ : ∃ N : Nat → Prop, N = fun g => v5.ownBlock = some g := ⟨_, rfl⟩
      have hlow : bm < Vt.heap.size := MG.out.lt.1
      have MN : Hid (MapG w5 (bm + 1) bm N (ownS FC k)) := Lib.hid ((MG.out.ban (fun g hg => by rw [hN] at hg; exact (World.ownsRow.lt hO5 g hg).1)).keep hb5)
      have NB : Hid (∀ g, N g → g < w5.heap.size) := Lib.hid (fun g hg => by rw [hN] at hg; exact (World.ownsRow.lt hO5 g hg).2)
      have NL : Hid (∀ g, N g → bm < g) := Lib.hid (fun g hg => by rw [hN] at hg; have := (World.ownsRow.lt hO5 g hg).1; omega)
      have NP : Hid (∀ g, v5.ownBlock = some g → N g) := Lib.hid (fun g hg => by rw [hN]; exact hg)
      replace HB := Lib.hid (HB.out.trans (hb5.mono HB.out.size))
      clear hN hO5 hb5 hlow MG
      obtain ⟨aL, cL, rfl, -, -, -, -⟩ := rowP_of_own OP.out
      generalize Vt.heap.size = H0 at *
      go_wp2_with fail
      go_loopw [20] (fun x wr => ∃ j : Nat, x = .int .i64 j ∧ j ≤ L.length ∧ MapG wr (bm + 1) bm N (sdN (ownS FC k) k L j) ∧ OwnP wr H0 (.slice aL L.length cL) L ∧ (∀ g, N g → g < wr.heap.size) ∧ Below w.heap.size w wr) (fun x _ => L.length - (intOf x).toNat)
      case atStart => exact ⟨0, rfl, Nat.zero_le _, by rw [S0.out]; exact MN.out, OP.out, NB.out, HB.out⟩
      case round =>
        clear HB MN OP NB
        obtain ⟨j, rfl, hj, hG, hO, hNB, hB⟩ := hrel
        have HB := Lib.hid hB
        have MG := Lib.hid hG
        have OP := Lib.hid hO
        have NB := Lib.hid hNB
        clear hB hG hO hNB
        by_cases hjl : j < L.length
        · obtain ⟨a', c', e', -, -, -, hR⟩ := rowP_of_own OP.out
          injection e' with e1 _ e3
          subst e1 e3
          obtain ⟨q, oq, x, y, rfl, hq, hL, hx, hy⟩ := hR.at hjl
          have hok : okK x y := OK.out (x, y) (List.mem_of_getElem? hL)
          have SJ : Hid (sdN (ownS FC k) k L (j + 1) = upS (sdN (ownS FC k) k L j) x y (sdN (ownS FC k) k L j x y ++ [(k : Int)])) := Lib.hid (by
            show upS (sdN (ownS FC k) k L j) (L.getD j (0, 0)).1 (L.getD j (0, 0)).2 (sdN (ownS FC k) k L j (L.getD j (0, 0)).1 (L.getD j (0, 0)).2 ++ [(k : Int)]) = _
            rw [List.getD_eq_getElem?_getD, hL]; rfl)
          have hlen := SL.out j x y hj
          generalize sdN (ownS FC k) k L j = S at *
          have HL := Lib.hid hL
          clear hR hL
          have j0 : (0 : Int) ≤ (j : Int) := by omega
          have j1 : (j : Int) < (L.length : Int) := by omega
          have j2 : ((j : Int)).toNat = j := by omega
          go_upto_region 8 with fail
          have hbs := below_new1 wr (.cells #[.int .i64 x, .int .i64 y] 58)
          replace MG := Lib.hid (MG.out.keep hbs)
          replace OP := Lib.hid (OP.out.keep hbs)
          have zs : (wr.alloc (.cells #[.int .i64 x, .int .i64 y] 58)).heap.size = wr.heap.size + 1 := by simp
          replace HB := Lib.hid (HB.out.trans (hbs.mono HB.out.size))
          have ks := Lib.hid (Lok.new wr 58 #[.int .i64 x, .int .i64 y])
          clear hbs
          generalize wr.alloc (.cells #[.int .i64 x, .int .i64 y] 58) = Vs at *
          have hws : wr.heap.size ≤ Vs.heap.size := by rw [zs]; omega
          replace NB := Lib.hid (fun g hg => Nat.lt_of_lt_of_le (NB.out g hg) hws)
          clear zs hx hy hws
          generalize wr.heap.size = gs at *
          have s0 := ks.out.cell (i := 0) rfl
          have s1 := ks.out.cell (i := 1) rfl
          have hbk : Below Vs.heap.size Vs (Vs.alloc (.cells #[.int .i64 k] 3)) := (Below.refl _ _).alloc (Nat.le_refl _) _
          have MG1 := MG.out.keep hbk
          have NB1 : ∀ g, N g → g < (Vs.alloc (.cells #[.int .i64 k] 3)).heap.size := fun g hg => Nat.lt_of_lt_of_le (NB.out g hg) hbk.size
          replace OP := Lib.hid (OP.out.keep hbk)
          replace HB := Lib.hid (HB.out.trans (hbk.mono HB.out.size))
          have KC := Lib.hid (Lok.new Vs 3 #[.int .i64 k])
          have hbmg := MG.out.lt.1
          clear hbk MG NB
          go_wp2_with (refine wpList_entryG rfl _ _ rfl (base := bm + 1) (b := bm) (N := N) (S := S) (p := x) (q := y) rfl rfl MG1 hok NB1 ?_)
          intro v st w1 hO1 hg1 hz1 hNv hback
          replace OP := Lib.hid (OP.out.grown hg1 (fun g hg e => by cases e; have := NL.out _ (NP.out _ hg); omega))
          replace HB := Lib.hid (HB.out.grown hg1 HB.out.size (fun g hg => by cases hg; omega))
          replace KC := Lib.hid (KC.out.grown hg1 (fun e => by cases e; omega))
          have NB := Lib.hid (fun g hg => Nat.lt_of_lt_of_le (NB1 g hg) hg1.size)
          have BK := Lib.hid hback
          have NV := Lib.hid hNv
          have hcell : ∀ (j : Nat) (u : Value), [Value.int .i64 (k : Int)][j]? = some u → w1.cell? (Addr.add ⟨Vs.heap.size, 0, none⟩ j) = some u := fun j u hu => by
            rw [Go.WideShapes.add_plain, Nat.zero_add]
            exact KC.out.cell (by rw [List.getElem?_toArray]; exact hu)
          have hone : ∀ u ∈ [Value.int .i64 (k : Int)], u.oneCell' = true := fun u hu => by rw [List.mem_singleton] at hu; subst hu; rfl
          have hbase : bm + 1 ≤ w1.heap.size := by have := hg1.size; have := NB1; omega
          have q1 : (S x y).length + 1 ≤ maxLen := by unfold maxLen; omega
          have q2 : ((S x y).length + 1) * 8 ≤ 140737488355328 := by omega
          have HC := Lib.hid hcell
          have HO := Lib.hid hone
          have O1 : Hid (w1.ownsRow (bm + 1) 3 1 v (S x y).length ((S x y).map (Value.int .i64))) := Lib.hid hO1
          clear hO1 hz1 hNv hback MG1 NB1 hcell hone
          go_wp2_with (at_builtin; refine wpList_append_own_at _ rfl _ _ 34 rfl (bm + 1) 3 iI (.int .i64 0) 1 8 Try.underlying34 hi hz0 hz1 hz2 rfl (by decide) v (S x y).length ((S x y).map (Value.int .i64)) rfl O1.out ⟨Vs.heap.size, 0, none⟩ 1 1 [.int .i64 k] rfl rfl HC.out HO.out q1 q2 hbase ?_)
          intro v' w2 hown hg2 _ hloc
          have O2 : OwnI w2 (bm + 1) v' (S x y ++ [(k : Int)]) := by
            unfold OwnI
            rw [List.length_append, List.map_append]
            exact hown
          have hne : S x y ++ [(k : Int)] ≠ [] := by simp
          have hloc2 : v'.ownBlock = v.ownBlock ∨ ∃ g, v'.ownBlock = some g ∧ w1.heap.size ≤ g := hloc.imp id (fun h => ⟨_, h, Nat.le_refl _⟩)
          replace OP := Lib.hid (OP.out.grown hg2 (fun g hg e => NV.out g e (NP.out g hg)))
          replace HB := Lib.hid (HB.out.grown hg2 HB.out.size (fun g hg => by have := (World.ownsRow.lt O1.out g hg).1; omega))
          replace NB := Lib.hid (fun g hg => Nat.lt_of_lt_of_le (NB.out g hg) hg2.size)
          clear hown hloc
          go_wp2_with (refine wpList_storeG rfl _ _ _ rfl (base := bm + 1) (b := bm) (N := N) (S := S) (p := x) (q := y) (st := st) (v := v) (v' := v') (L := S x y ++ [(k : Int)]) (w1 := w1) rfl rfl rfl BK.out hg2 O2 hne hloc2 ?_)
          intro w3 hG3 hg3
          replace OP := Lib.hid (OP.out.grown hg3 (fun g hg e => by cases e; have := NL.out _ (NP.out _ hg); omega))
          replace HB := Lib.hid (HB.out.grown hg3 HB.out.size (fun g hg => by cases hg; omega))
          replace NB := Lib.hid (fun g hg => Nat.lt_of_lt_of_le (NB.out g hg) hg3.size)
          have G3 := Lib.hid hG3
          clear hG3 hg3 hg2 hg1 O2 BK HC HO O1 hloc2 KC
          go_wp2
          go_roundw
          case rel => exact ⟨j + 1, by go_num, hjl, by rw [SJ.out]; exact G3.out, OP.out, NB.out, HB.out⟩
          case measure => simp [intOf]; omega
        · obtain rfl : j = L.length := by omega
          have G4 : Hid (MapG wr (bm + 1) bm (fun _ => False) (ownS FC (k + 1))) := Lib.hid (by rw [← SA.out]; exact MG.out.free)
          go_wp2
          go_roundw
          case rel => exact ⟨k + 1, by go_num, hlt, G4.out, HB.out⟩
          case measure => simp [intOf]; omega
    · obtain rfl : k = n4 := by omega
      go_wp2
      go_ret
      exact ⟨⟨bm, bm + 1, rfl, Nat.le_of_lt hwm, MG.out⟩, HB.out⟩
end Go.Proofs.Ytkheomaihhcokaa
