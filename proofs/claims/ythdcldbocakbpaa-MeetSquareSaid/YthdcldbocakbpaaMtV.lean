/-
  MeetSquare, walked. (gen/MtV.py)
-/
import Derived.Test.YthdcldbocakbpaaMtI
import Derived.Test.YthdcldbocakbpaaMtM
namespace Go.Proofs.Ythdcldbocakbpaa
open Go.RowKit

set_option maxRecDepth 100000 in
set_option maxHeartbeats 8000000 in
theorem law_square (x y s a1 a2 b1 b2 c1 c2 p q : Int) (w : World) :
    Calls Try.prog 7 #[.agg #[.int .i64 x, .int .i64 y], .int .i64 s, .agg #[.int .i64 a1, .int .i64 a2, .int .i64 b1, .int .i64 b2, .int .i64 c1, .int .i64 c2], .agg #[.int .i64 p, .int .i64 q]] w fun e' w' => e' = .returned (.bool true) ∧ Below w.heap.size w w' := by
  have HB := Lib.hid (Below.refl w.heap.size w)
  have ME := Lib.hid (fun W => met_any W)
  have S1 := Lib.hid (fun W => square_any x y s a1 a2 b1 b2 c1 c2 W)
  have I1 := Lib.hid (fun W => in_any p q a1 a2 b1 b2 c1 c2 W)
  have hno := sqV_no (x := x) (y := y) (s := s) (rT a1 a2 b1 b2 c1 c2) (a1 := a1) (a2 := a2) (b1 := b1) (b2 := b2) (c1 := c1) (c2 := c2)
  cases hs : sqS x y s with
  | false =>
    rw [hno (by rw [hs]; show (5 : Int) ≠ 0; decide) rfl, hs, show sqE false (rT a1 a2 b1 b2 c1 c2) = 5 from rfl] at S1
    clear hno hs I1
    go_enter Try.func7, Try.ntmps7
    go_upto_region 1 with fail
    have hbk := below_new1 w (.cells #[.int .i64 x, .int .i64 y] 23)
    have zk : (w.alloc (.cells #[.int .i64 x, .int .i64 y] 23)).heap.size = w.heap.size + 1 := by simp
    have HB := Lib.hid hbk
    have kk := Lib.hid (Lok.new w 23 #[.int .i64 x, .int .i64 y])
    clear hbk
    generalize w.alloc (.cells #[.int .i64 x, .int .i64 y] 23) = Vk at *
    have hbl := below_new1 Vk (.cells #[.int .i64 a1, .int .i64 a2, .int .i64 b1, .int .i64 b2, .int .i64 c1, .int .i64 c2] 24)
    replace kk := Lib.hid (kk.out.keep hbl)
    have zl : (Vk.alloc (.cells #[.int .i64 a1, .int .i64 a2, .int .i64 b1, .int .i64 b2, .int .i64 c1, .int .i64 c2] 24)).heap.size = Vk.heap.size + 1 := by simp
    replace HB := Lib.hid (HB.out.trans (hbl.mono HB.out.size))
    have kl := Lib.hid (Lok.new Vk 24 #[.int .i64 a1, .int .i64 a2, .int .i64 b1, .int .i64 b2, .int .i64 c1, .int .i64 c2])
    clear hbl
    generalize Vk.alloc (.cells #[.int .i64 a1, .int .i64 a2, .int .i64 b1, .int .i64 b2, .int .i64 c1, .int .i64 c2] 24) = Vl at *
    rw [zk] at kl zl
    have hbm := below_new1 Vl (.cells #[.int .i64 p, .int .i64 q] 23)
    replace kk := Lib.hid (kk.out.keep hbm)
    replace kl := Lib.hid (kl.out.keep hbm)
    have zm : (Vl.alloc (.cells #[.int .i64 p, .int .i64 q] 23)).heap.size = Vl.heap.size + 1 := by simp
    replace HB := Lib.hid (HB.out.trans (hbm.mono HB.out.size))
    have km := Lib.hid (Lok.new Vl 23 #[.int .i64 p, .int .i64 q])
    clear hbm
    generalize Vl.alloc (.cells #[.int .i64 p, .int .i64 q] 23) = Vm at *
    rw [zl] at km
    clear zk zl zm
    have k0 := kk.out.cell (i := 0) rfl
    have k1 := kk.out.cell (i := 1) rfl
    have l0 := kl.out.cell (i := 0) rfl
    have l1 := kl.out.cell (i := 1) rfl
    have l2 := kl.out.cell (i := 2) rfl
    have l3 := kl.out.cell (i := 3) rfl
    have l4 := kl.out.cell (i := 4) rfl
    have l5 := kl.out.cell (i := 5) rfl
    go_wp2_with fail
    clear k0 k1 l0 l1 l2 l3 l4 l5
    (((with_reducible refine (S1.out _).mono ?_); rintro e w1 ⟨rfl, hb1⟩); replace HB := Lib.hid (HB.out.trans (hb1.mono HB.out.size)); replace kk := Lib.hid (kk.out.keep hb1); replace kl := Lib.hid (kl.out.keep hb1); replace km := Lib.hid (km.out.keep hb1); clear hb1)
    clear S1
    go_wp2_with fail
    (((with_reducible refine (ME.out _).mono ?_); rintro e w2 ⟨rfl, hb2⟩); replace HB := Lib.hid (HB.out.trans (hb2.mono HB.out.size)); replace kk := Lib.hid (kk.out.keep hb2); replace kl := Lib.hid (kl.out.keep hb2); replace km := Lib.hid (km.out.keep hb2); clear hb2)
    go_wp2
    go_ret
    exact ⟨rfl, HB.out⟩
  | true =>
    cases ht : rT a1 a2 b1 b2 c1 c2 with
    | false =>
      rw [hno (by rw [hs, ht]; decide) rfl, hs, ht, show sqE true false = 1 from rfl] at S1
      clear hno hs ht I1
      go_enter Try.func7, Try.ntmps7
      go_upto_region 1 with fail
      have hbk := below_new1 w (.cells #[.int .i64 x, .int .i64 y] 23)
      have zk : (w.alloc (.cells #[.int .i64 x, .int .i64 y] 23)).heap.size = w.heap.size + 1 := by simp
      have HB := Lib.hid hbk
      have kk := Lib.hid (Lok.new w 23 #[.int .i64 x, .int .i64 y])
      clear hbk
      generalize w.alloc (.cells #[.int .i64 x, .int .i64 y] 23) = Vk at *
      have hbl := below_new1 Vk (.cells #[.int .i64 a1, .int .i64 a2, .int .i64 b1, .int .i64 b2, .int .i64 c1, .int .i64 c2] 24)
      replace kk := Lib.hid (kk.out.keep hbl)
      have zl : (Vk.alloc (.cells #[.int .i64 a1, .int .i64 a2, .int .i64 b1, .int .i64 b2, .int .i64 c1, .int .i64 c2] 24)).heap.size = Vk.heap.size + 1 := by simp
      replace HB := Lib.hid (HB.out.trans (hbl.mono HB.out.size))
      have kl := Lib.hid (Lok.new Vk 24 #[.int .i64 a1, .int .i64 a2, .int .i64 b1, .int .i64 b2, .int .i64 c1, .int .i64 c2])
      clear hbl
      generalize Vk.alloc (.cells #[.int .i64 a1, .int .i64 a2, .int .i64 b1, .int .i64 b2, .int .i64 c1, .int .i64 c2] 24) = Vl at *
      rw [zk] at kl zl
      have hbm := below_new1 Vl (.cells #[.int .i64 p, .int .i64 q] 23)
      replace kk := Lib.hid (kk.out.keep hbm)
      replace kl := Lib.hid (kl.out.keep hbm)
      have zm : (Vl.alloc (.cells #[.int .i64 p, .int .i64 q] 23)).heap.size = Vl.heap.size + 1 := by simp
      replace HB := Lib.hid (HB.out.trans (hbm.mono HB.out.size))
      have km := Lib.hid (Lok.new Vl 23 #[.int .i64 p, .int .i64 q])
      clear hbm
      generalize Vl.alloc (.cells #[.int .i64 p, .int .i64 q] 23) = Vm at *
      rw [zl] at km
      clear zk zl zm
      have k0 := kk.out.cell (i := 0) rfl
      have k1 := kk.out.cell (i := 1) rfl
      have l0 := kl.out.cell (i := 0) rfl
      have l1 := kl.out.cell (i := 1) rfl
      have l2 := kl.out.cell (i := 2) rfl
      have l3 := kl.out.cell (i := 3) rfl
      have l4 := kl.out.cell (i := 4) rfl
      have l5 := kl.out.cell (i := 5) rfl
      go_wp2_with fail
      clear k0 k1 l0 l1 l2 l3 l4 l5
      (((with_reducible refine (S1.out _).mono ?_); rintro e w1 ⟨rfl, hb1⟩); replace HB := Lib.hid (HB.out.trans (hb1.mono HB.out.size)); replace kk := Lib.hid (kk.out.keep hb1); replace kl := Lib.hid (kl.out.keep hb1); replace km := Lib.hid (km.out.keep hb1); clear hb1)
      clear S1
      go_wp2_with fail
      (((with_reducible refine (ME.out _).mono ?_); rintro e w2 ⟨rfl, hb2⟩); replace HB := Lib.hid (HB.out.trans (hb2.mono HB.out.size)); replace kk := Lib.hid (kk.out.keep hb2); replace kl := Lib.hid (kl.out.keep hb2); replace km := Lib.hid (km.out.keep hb2); clear hb2)
      go_wp2
      go_ret
      exact ⟨rfl, HB.out⟩
    | true =>
      rw [hs, ht, show sqE true true = 0 from rfl] at S1
      rw [ht] at I1
      have bs := sqS_iff.1 hs
      obtain ⟨s1, ws⟩ : ∃ v, IntKind.i64.wrap (s + 1) = v := ⟨_, rfl⟩
      have es : s1 = s + 1 := ws.symm.trans (IntWalk.i64_in _ (by omega))
      have S2 := Lib.hid (fun W => square_any x y s1 a1 a2 b1 b2 c1 c2 W)
      have hg := sqV_grow (x := x) (y := y) (s := s) (a1 := a1) (a2 := a2) (b1 := b1) (b2 := b2) (c1 := c1) (c2 := c2)
      rw [← es] at hg
      have hpt := sqV_point (x := x) (y := y) (s := s) (p := p) (q := q) hs ht
      rw [ht] at S2
      obtain ⟨bx, ex⟩ : ∃ v, sqV x y s a1 a2 b1 b2 c1 c2 = v := ⟨_, rfl⟩
      obtain ⟨bg, eg⟩ : ∃ v, sqV x y s1 a1 a2 b1 b2 c1 c2 = v := ⟨_, rfl⟩
      obtain ⟨e1, ee⟩ : ∃ v, sqE (sqS x y s1) true = v := ⟨_, rfl⟩
      rw [ex] at S1 hg hpt
      rw [eg] at S2 hg
      rw [ee] at S2
      have HW : Hid (e1 = 5 ∨ (e1 = 0 ∧ (bx = false ∨ bg = true))) := by
        cases hs1 : sqS x y s1 with
        | false => exact .inl (by rw [← ee, hs1]; rfl)
        | true =>
          refine .inr ⟨by rw [← ee, hs1]; rfl, ?_⟩
          cases bx with
          | false => exact .inl rfl
          | true => exact .inr (hg rfl hs1)
      clear hno hs ht es hg ex eg ee
      cases hp : s2 p q with
      | false =>
        rw [hp, show iV false true (r1 a1 a2 b1 b2 c1 c2 p q) = 0 from rfl, show iE false true = 5 from rfl] at I1
        clear hp hpt bs
        go_enter Try.func7, Try.ntmps7
        go_upto_region 1 with fail
        have hbk := below_new1 w (.cells #[.int .i64 x, .int .i64 y] 23)
        have zk : (w.alloc (.cells #[.int .i64 x, .int .i64 y] 23)).heap.size = w.heap.size + 1 := by simp
        have HB := Lib.hid hbk
        have kk := Lib.hid (Lok.new w 23 #[.int .i64 x, .int .i64 y])
        clear hbk
        generalize w.alloc (.cells #[.int .i64 x, .int .i64 y] 23) = Vk at *
        have hbl := below_new1 Vk (.cells #[.int .i64 a1, .int .i64 a2, .int .i64 b1, .int .i64 b2, .int .i64 c1, .int .i64 c2] 24)
        replace kk := Lib.hid (kk.out.keep hbl)
        have zl : (Vk.alloc (.cells #[.int .i64 a1, .int .i64 a2, .int .i64 b1, .int .i64 b2, .int .i64 c1, .int .i64 c2] 24)).heap.size = Vk.heap.size + 1 := by simp
        replace HB := Lib.hid (HB.out.trans (hbl.mono HB.out.size))
        have kl := Lib.hid (Lok.new Vk 24 #[.int .i64 a1, .int .i64 a2, .int .i64 b1, .int .i64 b2, .int .i64 c1, .int .i64 c2])
        clear hbl
        generalize Vk.alloc (.cells #[.int .i64 a1, .int .i64 a2, .int .i64 b1, .int .i64 b2, .int .i64 c1, .int .i64 c2] 24) = Vl at *
        rw [zk] at kl zl
        have hbm := below_new1 Vl (.cells #[.int .i64 p, .int .i64 q] 23)
        replace kk := Lib.hid (kk.out.keep hbm)
        replace kl := Lib.hid (kl.out.keep hbm)
        have zm : (Vl.alloc (.cells #[.int .i64 p, .int .i64 q] 23)).heap.size = Vl.heap.size + 1 := by simp
        replace HB := Lib.hid (HB.out.trans (hbm.mono HB.out.size))
        have km := Lib.hid (Lok.new Vl 23 #[.int .i64 p, .int .i64 q])
        clear hbm
        generalize Vl.alloc (.cells #[.int .i64 p, .int .i64 q] 23) = Vm at *
        rw [zl] at km
        clear zk zl zm
        have k0 := kk.out.cell (i := 0) rfl
        have k1 := kk.out.cell (i := 1) rfl
        have l0 := kl.out.cell (i := 0) rfl
        have l1 := kl.out.cell (i := 1) rfl
        have l2 := kl.out.cell (i := 2) rfl
        have l3 := kl.out.cell (i := 3) rfl
        have l4 := kl.out.cell (i := 4) rfl
        have l5 := kl.out.cell (i := 5) rfl
        go_wp2_with fail
        clear k0 k1 l0 l1 l2 l3 l4 l5
        (((with_reducible refine (S1.out _).mono ?_); rintro e w1 ⟨rfl, hb1⟩); replace HB := Lib.hid (HB.out.trans (hb1.mono HB.out.size)); replace kk := Lib.hid (kk.out.keep hb1); replace kl := Lib.hid (kl.out.keep hb1); replace km := Lib.hid (km.out.keep hb1); clear hb1)
        clear S1
        have l0 := kl.out.cell (i := 0) rfl
        have l1 := kl.out.cell (i := 1) rfl
        have l2 := kl.out.cell (i := 2) rfl
        have l3 := kl.out.cell (i := 3) rfl
        have l4 := kl.out.cell (i := 4) rfl
        have l5 := kl.out.cell (i := 5) rfl
        have m0 := km.out.cell (i := 0) rfl
        have m1 := km.out.cell (i := 1) rfl
        go_wp2_with fail
        clear l0 l1 l2 l3 l4 l5 m0 m1
        (((with_reducible refine (I1.out _).mono ?_); rintro e w2 ⟨rfl, hb2⟩); replace HB := Lib.hid (HB.out.trans (hb2.mono HB.out.size)); replace kk := Lib.hid (kk.out.keep hb2); replace kl := Lib.hid (kl.out.keep hb2); replace km := Lib.hid (km.out.keep hb2); clear hb2)
        clear I1
        have k0 := kk.out.cell (i := 0) rfl
        have k1 := kk.out.cell (i := 1) rfl
        have l0 := kl.out.cell (i := 0) rfl
        have l1 := kl.out.cell (i := 1) rfl
        have l2 := kl.out.cell (i := 2) rfl
        have l3 := kl.out.cell (i := 3) rfl
        have l4 := kl.out.cell (i := 4) rfl
        have l5 := kl.out.cell (i := 5) rfl
        go_wp2_with fail
        clear k0 k1 l0 l1 l2 l3 l4 l5
        (((with_reducible refine (S2.out _).mono ?_); rintro e w3 ⟨rfl, hb3⟩); replace HB := Lib.hid (HB.out.trans (hb3.mono HB.out.size)); replace kk := Lib.hid (kk.out.keep hb3); replace kl := Lib.hid (kl.out.keep hb3); replace km := Lib.hid (km.out.keep hb3); clear hb3)
        clear S2
        go_wp2_with fail
        (((with_reducible refine (ME.out _).mono ?_); rintro e w4 ⟨rfl, hb4⟩); replace HB := Lib.hid (HB.out.trans (hb4.mono HB.out.size)); replace kk := Lib.hid (kk.out.keep hb4); replace kl := Lib.hid (kl.out.keep hb4); replace km := Lib.hid (km.out.keep hb4); clear hb4)
        rcases HW.out with rfl | ⟨rfl, rfl | rfl⟩
        · clear HW ME
          go_wp2
          all_goals go_ret
          all_goals exact ⟨rfl, HB.out⟩
        · clear HW ME
          go_wp2
          all_goals go_ret
          all_goals exact ⟨rfl, HB.out⟩
        · clear HW ME
          go_wp2
          all_goals go_ret
          all_goals exact ⟨rfl, HB.out⟩
      | true =>
        rw [hp, show iV true true (r1 a1 a2 b1 b2 c1 c2 p q) = r1 a1 a2 b1 b2 c1 c2 p q + 1 from rfl, show iE true true = 0 from rfl] at I1
        have bp := s2_iff.1 hp
        unfold SM at bp
        have wp : IntKind.i64.wrap (p - s) = p - s := IntWalk.i64_in _ (by omega)
        have wq : IntKind.i64.wrap (q - s) = q - s := IntWalk.i64_in _ (by omega)
        clear hp bs bp
        have hr := (rc_bd a1 a2 b1 b2 c1 c2 (rowOf 2 [p, q]) 1).1
        rw [show rc a1 a2 b1 b2 c1 c2 (rowOf 2 [p, q]) 1 = r1 a1 a2 b1 b2 c1 c2 p q from rfl] at hr
        obtain ⟨n, en⟩ : ∃ v, r1 a1 a2 b1 b2 c1 c2 p q + 1 = v := ⟨_, rfl⟩
        rw [en] at I1
        have hpt' := fun (h : 0 < n) => hpt (by omega)
        have hn : 0 ≤ n := by omega
        clear hpt en hr
        rcases (show n = 0 ∨ 0 < n by omega) with rfl | hn1
        · clear hpt' hn wp wq
          go_enter Try.func7, Try.ntmps7
          go_upto_region 1 with fail
          have hbk := below_new1 w (.cells #[.int .i64 x, .int .i64 y] 23)
          have zk : (w.alloc (.cells #[.int .i64 x, .int .i64 y] 23)).heap.size = w.heap.size + 1 := by simp
          have HB := Lib.hid hbk
          have kk := Lib.hid (Lok.new w 23 #[.int .i64 x, .int .i64 y])
          clear hbk
          generalize w.alloc (.cells #[.int .i64 x, .int .i64 y] 23) = Vk at *
          have hbl := below_new1 Vk (.cells #[.int .i64 a1, .int .i64 a2, .int .i64 b1, .int .i64 b2, .int .i64 c1, .int .i64 c2] 24)
          replace kk := Lib.hid (kk.out.keep hbl)
          have zl : (Vk.alloc (.cells #[.int .i64 a1, .int .i64 a2, .int .i64 b1, .int .i64 b2, .int .i64 c1, .int .i64 c2] 24)).heap.size = Vk.heap.size + 1 := by simp
          replace HB := Lib.hid (HB.out.trans (hbl.mono HB.out.size))
          have kl := Lib.hid (Lok.new Vk 24 #[.int .i64 a1, .int .i64 a2, .int .i64 b1, .int .i64 b2, .int .i64 c1, .int .i64 c2])
          clear hbl
          generalize Vk.alloc (.cells #[.int .i64 a1, .int .i64 a2, .int .i64 b1, .int .i64 b2, .int .i64 c1, .int .i64 c2] 24) = Vl at *
          rw [zk] at kl zl
          have hbm := below_new1 Vl (.cells #[.int .i64 p, .int .i64 q] 23)
          replace kk := Lib.hid (kk.out.keep hbm)
          replace kl := Lib.hid (kl.out.keep hbm)
          have zm : (Vl.alloc (.cells #[.int .i64 p, .int .i64 q] 23)).heap.size = Vl.heap.size + 1 := by simp
          replace HB := Lib.hid (HB.out.trans (hbm.mono HB.out.size))
          have km := Lib.hid (Lok.new Vl 23 #[.int .i64 p, .int .i64 q])
          clear hbm
          generalize Vl.alloc (.cells #[.int .i64 p, .int .i64 q] 23) = Vm at *
          rw [zl] at km
          clear zk zl zm
          have k0 := kk.out.cell (i := 0) rfl
          have k1 := kk.out.cell (i := 1) rfl
          have l0 := kl.out.cell (i := 0) rfl
          have l1 := kl.out.cell (i := 1) rfl
          have l2 := kl.out.cell (i := 2) rfl
          have l3 := kl.out.cell (i := 3) rfl
          have l4 := kl.out.cell (i := 4) rfl
          have l5 := kl.out.cell (i := 5) rfl
          go_wp2_with fail
          clear k0 k1 l0 l1 l2 l3 l4 l5
          (((with_reducible refine (S1.out _).mono ?_); rintro e w1 ⟨rfl, hb1⟩); replace HB := Lib.hid (HB.out.trans (hb1.mono HB.out.size)); replace kk := Lib.hid (kk.out.keep hb1); replace kl := Lib.hid (kl.out.keep hb1); replace km := Lib.hid (km.out.keep hb1); clear hb1)
          clear S1
          have l0 := kl.out.cell (i := 0) rfl
          have l1 := kl.out.cell (i := 1) rfl
          have l2 := kl.out.cell (i := 2) rfl
          have l3 := kl.out.cell (i := 3) rfl
          have l4 := kl.out.cell (i := 4) rfl
          have l5 := kl.out.cell (i := 5) rfl
          have m0 := km.out.cell (i := 0) rfl
          have m1 := km.out.cell (i := 1) rfl
          go_wp2_with fail
          clear l0 l1 l2 l3 l4 l5 m0 m1
          (((with_reducible refine (I1.out _).mono ?_); rintro e w2 ⟨rfl, hb2⟩); replace HB := Lib.hid (HB.out.trans (hb2.mono HB.out.size)); replace kk := Lib.hid (kk.out.keep hb2); replace kl := Lib.hid (kl.out.keep hb2); replace km := Lib.hid (km.out.keep hb2); clear hb2)
          clear I1
          have k0 := kk.out.cell (i := 0) rfl
          have k1 := kk.out.cell (i := 1) rfl
          have l0 := kl.out.cell (i := 0) rfl
          have l1 := kl.out.cell (i := 1) rfl
          have l2 := kl.out.cell (i := 2) rfl
          have l3 := kl.out.cell (i := 3) rfl
          have l4 := kl.out.cell (i := 4) rfl
          have l5 := kl.out.cell (i := 5) rfl
          go_wp2_with fail
          clear k0 k1 l0 l1 l2 l3 l4 l5
          (((with_reducible refine (S2.out _).mono ?_); rintro e w3 ⟨rfl, hb3⟩); replace HB := Lib.hid (HB.out.trans (hb3.mono HB.out.size)); replace kk := Lib.hid (kk.out.keep hb3); replace kl := Lib.hid (kl.out.keep hb3); replace km := Lib.hid (km.out.keep hb3); clear hb3)
          clear S2
          go_wp2_with fail
          (((with_reducible refine (ME.out _).mono ?_); rintro e w4 ⟨rfl, hb4⟩); replace HB := Lib.hid (HB.out.trans (hb4.mono HB.out.size)); replace kk := Lib.hid (kk.out.keep hb4); replace kl := Lib.hid (kl.out.keep hb4); replace km := Lib.hid (km.out.keep hb4); clear hb4)
          rcases HW.out with rfl | ⟨rfl, rfl | rfl⟩
          · clear HW ME
            go_wp2
            all_goals go_ret
            all_goals exact ⟨rfl, HB.out⟩
          · clear HW ME
            go_wp2
            all_goals go_ret
            all_goals exact ⟨rfl, HB.out⟩
          · clear HW ME
            go_wp2
            all_goals go_ret
            all_goals exact ⟨rfl, HB.out⟩
        · have d0 : decide (0 < n) = true := decide_eq_true hn1
          have hq := hpt' hn1
          clear hpt' hn
          cases bx with
          | true =>
            clear hq wp wq
            go_enter Try.func7, Try.ntmps7
            go_upto_region 1 with fail
            have hbk := below_new1 w (.cells #[.int .i64 x, .int .i64 y] 23)
            have zk : (w.alloc (.cells #[.int .i64 x, .int .i64 y] 23)).heap.size = w.heap.size + 1 := by simp
            have HB := Lib.hid hbk
            have kk := Lib.hid (Lok.new w 23 #[.int .i64 x, .int .i64 y])
            clear hbk
            generalize w.alloc (.cells #[.int .i64 x, .int .i64 y] 23) = Vk at *
            have hbl := below_new1 Vk (.cells #[.int .i64 a1, .int .i64 a2, .int .i64 b1, .int .i64 b2, .int .i64 c1, .int .i64 c2] 24)
            replace kk := Lib.hid (kk.out.keep hbl)
            have zl : (Vk.alloc (.cells #[.int .i64 a1, .int .i64 a2, .int .i64 b1, .int .i64 b2, .int .i64 c1, .int .i64 c2] 24)).heap.size = Vk.heap.size + 1 := by simp
            replace HB := Lib.hid (HB.out.trans (hbl.mono HB.out.size))
            have kl := Lib.hid (Lok.new Vk 24 #[.int .i64 a1, .int .i64 a2, .int .i64 b1, .int .i64 b2, .int .i64 c1, .int .i64 c2])
            clear hbl
            generalize Vk.alloc (.cells #[.int .i64 a1, .int .i64 a2, .int .i64 b1, .int .i64 b2, .int .i64 c1, .int .i64 c2] 24) = Vl at *
            rw [zk] at kl zl
            have hbm := below_new1 Vl (.cells #[.int .i64 p, .int .i64 q] 23)
            replace kk := Lib.hid (kk.out.keep hbm)
            replace kl := Lib.hid (kl.out.keep hbm)
            have zm : (Vl.alloc (.cells #[.int .i64 p, .int .i64 q] 23)).heap.size = Vl.heap.size + 1 := by simp
            replace HB := Lib.hid (HB.out.trans (hbm.mono HB.out.size))
            have km := Lib.hid (Lok.new Vl 23 #[.int .i64 p, .int .i64 q])
            clear hbm
            generalize Vl.alloc (.cells #[.int .i64 p, .int .i64 q] 23) = Vm at *
            rw [zl] at km
            clear zk zl zm
            have k0 := kk.out.cell (i := 0) rfl
            have k1 := kk.out.cell (i := 1) rfl
            have l0 := kl.out.cell (i := 0) rfl
            have l1 := kl.out.cell (i := 1) rfl
            have l2 := kl.out.cell (i := 2) rfl
            have l3 := kl.out.cell (i := 3) rfl
            have l4 := kl.out.cell (i := 4) rfl
            have l5 := kl.out.cell (i := 5) rfl
            go_wp2_with fail
            clear k0 k1 l0 l1 l2 l3 l4 l5
            (((with_reducible refine (S1.out _).mono ?_); rintro e w1 ⟨rfl, hb1⟩); replace HB := Lib.hid (HB.out.trans (hb1.mono HB.out.size)); replace kk := Lib.hid (kk.out.keep hb1); replace kl := Lib.hid (kl.out.keep hb1); replace km := Lib.hid (km.out.keep hb1); clear hb1)
            clear S1
            have l0 := kl.out.cell (i := 0) rfl
            have l1 := kl.out.cell (i := 1) rfl
            have l2 := kl.out.cell (i := 2) rfl
            have l3 := kl.out.cell (i := 3) rfl
            have l4 := kl.out.cell (i := 4) rfl
            have l5 := kl.out.cell (i := 5) rfl
            have m0 := km.out.cell (i := 0) rfl
            have m1 := km.out.cell (i := 1) rfl
            go_wp2_with fail
            clear l0 l1 l2 l3 l4 l5 m0 m1
            (((with_reducible refine (I1.out _).mono ?_); rintro e w2 ⟨rfl, hb2⟩); replace HB := Lib.hid (HB.out.trans (hb2.mono HB.out.size)); replace kk := Lib.hid (kk.out.keep hb2); replace kl := Lib.hid (kl.out.keep hb2); replace km := Lib.hid (km.out.keep hb2); clear hb2)
            clear I1
            have k0 := kk.out.cell (i := 0) rfl
            have k1 := kk.out.cell (i := 1) rfl
            have l0 := kl.out.cell (i := 0) rfl
            have l1 := kl.out.cell (i := 1) rfl
            have l2 := kl.out.cell (i := 2) rfl
            have l3 := kl.out.cell (i := 3) rfl
            have l4 := kl.out.cell (i := 4) rfl
            have l5 := kl.out.cell (i := 5) rfl
            go_wp2_with fail
            clear k0 k1 l0 l1 l2 l3 l4 l5
            (((with_reducible refine (S2.out _).mono ?_); rintro e w3 ⟨rfl, hb3⟩); replace HB := Lib.hid (HB.out.trans (hb3.mono HB.out.size)); replace kk := Lib.hid (kk.out.keep hb3); replace kl := Lib.hid (kl.out.keep hb3); replace km := Lib.hid (km.out.keep hb3); clear hb3)
            clear S2
            go_wp2_with fail
            (((with_reducible refine (ME.out _).mono ?_); rintro e w4 ⟨rfl, hb4⟩); replace HB := Lib.hid (HB.out.trans (hb4.mono HB.out.size)); replace kk := Lib.hid (kk.out.keep hb4); replace kl := Lib.hid (kl.out.keep hb4); replace km := Lib.hid (km.out.keep hb4); clear hb4)
            rcases HW.out with rfl | ⟨rfl, h | rfl⟩
            · clear HW ME
              go_wp2
              all_goals go_ret
              all_goals exact ⟨rfl, HB.out⟩
            · cases h
            · clear HW ME
              go_wp2
              all_goals go_ret
              all_goals exact ⟨rfl, HB.out⟩
          | false =>
            by_cases i1 : x ≤ p
            · have j0 : decide (x ≤ p) = true := decide_eq_true i1
              by_cases i2 : y ≤ q
              · have j1 : decide (y ≤ q) = true := decide_eq_true i2
                by_cases i3 : p - s ≤ x
                · have j2 : decide (p - s ≤ x) = true := decide_eq_true i3
                  by_cases i4 : q - s ≤ y
                  · have j3 : decide (q - s ≤ y) = true := decide_eq_true i4
                    exact absurd (hq i1 i2 i3 i4) (by decide)
                  · have j3 : decide (q - s ≤ y) = false := decide_eq_false i4
                    clear hq
                    go_enter Try.func7, Try.ntmps7
                    go_upto_region 1 with fail
                    have hbk := below_new1 w (.cells #[.int .i64 x, .int .i64 y] 23)
                    have zk : (w.alloc (.cells #[.int .i64 x, .int .i64 y] 23)).heap.size = w.heap.size + 1 := by simp
                    have HB := Lib.hid hbk
                    have kk := Lib.hid (Lok.new w 23 #[.int .i64 x, .int .i64 y])
                    clear hbk
                    generalize w.alloc (.cells #[.int .i64 x, .int .i64 y] 23) = Vk at *
                    have hbl := below_new1 Vk (.cells #[.int .i64 a1, .int .i64 a2, .int .i64 b1, .int .i64 b2, .int .i64 c1, .int .i64 c2] 24)
                    replace kk := Lib.hid (kk.out.keep hbl)
                    have zl : (Vk.alloc (.cells #[.int .i64 a1, .int .i64 a2, .int .i64 b1, .int .i64 b2, .int .i64 c1, .int .i64 c2] 24)).heap.size = Vk.heap.size + 1 := by simp
                    replace HB := Lib.hid (HB.out.trans (hbl.mono HB.out.size))
                    have kl := Lib.hid (Lok.new Vk 24 #[.int .i64 a1, .int .i64 a2, .int .i64 b1, .int .i64 b2, .int .i64 c1, .int .i64 c2])
                    clear hbl
                    generalize Vk.alloc (.cells #[.int .i64 a1, .int .i64 a2, .int .i64 b1, .int .i64 b2, .int .i64 c1, .int .i64 c2] 24) = Vl at *
                    rw [zk] at kl zl
                    have hbm := below_new1 Vl (.cells #[.int .i64 p, .int .i64 q] 23)
                    replace kk := Lib.hid (kk.out.keep hbm)
                    replace kl := Lib.hid (kl.out.keep hbm)
                    have zm : (Vl.alloc (.cells #[.int .i64 p, .int .i64 q] 23)).heap.size = Vl.heap.size + 1 := by simp
                    replace HB := Lib.hid (HB.out.trans (hbm.mono HB.out.size))
                    have km := Lib.hid (Lok.new Vl 23 #[.int .i64 p, .int .i64 q])
                    clear hbm
                    generalize Vl.alloc (.cells #[.int .i64 p, .int .i64 q] 23) = Vm at *
                    rw [zl] at km
                    clear zk zl zm
                    have k0 := kk.out.cell (i := 0) rfl
                    have k1 := kk.out.cell (i := 1) rfl
                    have l0 := kl.out.cell (i := 0) rfl
                    have l1 := kl.out.cell (i := 1) rfl
                    have l2 := kl.out.cell (i := 2) rfl
                    have l3 := kl.out.cell (i := 3) rfl
                    have l4 := kl.out.cell (i := 4) rfl
                    have l5 := kl.out.cell (i := 5) rfl
                    go_wp2_with fail
                    clear k0 k1 l0 l1 l2 l3 l4 l5
                    (((with_reducible refine (S1.out _).mono ?_); rintro e w1 ⟨rfl, hb1⟩); replace HB := Lib.hid (HB.out.trans (hb1.mono HB.out.size)); replace kk := Lib.hid (kk.out.keep hb1); replace kl := Lib.hid (kl.out.keep hb1); replace km := Lib.hid (km.out.keep hb1); clear hb1)
                    clear S1
                    have l0 := kl.out.cell (i := 0) rfl
                    have l1 := kl.out.cell (i := 1) rfl
                    have l2 := kl.out.cell (i := 2) rfl
                    have l3 := kl.out.cell (i := 3) rfl
                    have l4 := kl.out.cell (i := 4) rfl
                    have l5 := kl.out.cell (i := 5) rfl
                    have m0 := km.out.cell (i := 0) rfl
                    have m1 := km.out.cell (i := 1) rfl
                    go_wp2_with fail
                    clear l0 l1 l2 l3 l4 l5 m0 m1
                    (((with_reducible refine (I1.out _).mono ?_); rintro e w2 ⟨rfl, hb2⟩); replace HB := Lib.hid (HB.out.trans (hb2.mono HB.out.size)); replace kk := Lib.hid (kk.out.keep hb2); replace kl := Lib.hid (kl.out.keep hb2); replace km := Lib.hid (km.out.keep hb2); clear hb2)
                    clear I1
                    have k0 := kk.out.cell (i := 0) rfl
                    have k1 := kk.out.cell (i := 1) rfl
                    have m0 := km.out.cell (i := 0) rfl
                    have m1 := km.out.cell (i := 1) rfl
                    go_upto_region 8 with fail
                    clear k0 k1 m0 m1
                    have k0 := kk.out.cell (i := 0) rfl
                    have k1 := kk.out.cell (i := 1) rfl
                    have l0 := kl.out.cell (i := 0) rfl
                    have l1 := kl.out.cell (i := 1) rfl
                    have l2 := kl.out.cell (i := 2) rfl
                    have l3 := kl.out.cell (i := 3) rfl
                    have l4 := kl.out.cell (i := 4) rfl
                    have l5 := kl.out.cell (i := 5) rfl
                    go_wp2_with fail
                    clear k0 k1 l0 l1 l2 l3 l4 l5
                    (((with_reducible refine (S2.out _).mono ?_); rintro e w3 ⟨rfl, hb3⟩); replace HB := Lib.hid (HB.out.trans (hb3.mono HB.out.size)); replace kk := Lib.hid (kk.out.keep hb3); replace kl := Lib.hid (kl.out.keep hb3); replace km := Lib.hid (km.out.keep hb3); clear hb3)
                    clear S2
                    go_wp2_with fail
                    (((with_reducible refine (ME.out _).mono ?_); rintro e w4 ⟨rfl, hb4⟩); replace HB := Lib.hid (HB.out.trans (hb4.mono HB.out.size)); replace kk := Lib.hid (kk.out.keep hb4); replace kl := Lib.hid (kl.out.keep hb4); replace km := Lib.hid (km.out.keep hb4); clear hb4)
                    rcases HW.out with rfl | ⟨rfl, -⟩
                    · clear HW ME
                      go_wp2
                      all_goals go_ret
                      all_goals exact ⟨rfl, HB.out⟩
                    · clear HW ME
                      go_wp2
                      all_goals go_ret
                      all_goals exact ⟨rfl, HB.out⟩
                · have j2 : decide (p - s ≤ x) = false := decide_eq_false i3
                  clear hq
                  go_enter Try.func7, Try.ntmps7
                  go_upto_region 1 with fail
                  have hbk := below_new1 w (.cells #[.int .i64 x, .int .i64 y] 23)
                  have zk : (w.alloc (.cells #[.int .i64 x, .int .i64 y] 23)).heap.size = w.heap.size + 1 := by simp
                  have HB := Lib.hid hbk
                  have kk := Lib.hid (Lok.new w 23 #[.int .i64 x, .int .i64 y])
                  clear hbk
                  generalize w.alloc (.cells #[.int .i64 x, .int .i64 y] 23) = Vk at *
                  have hbl := below_new1 Vk (.cells #[.int .i64 a1, .int .i64 a2, .int .i64 b1, .int .i64 b2, .int .i64 c1, .int .i64 c2] 24)
                  replace kk := Lib.hid (kk.out.keep hbl)
                  have zl : (Vk.alloc (.cells #[.int .i64 a1, .int .i64 a2, .int .i64 b1, .int .i64 b2, .int .i64 c1, .int .i64 c2] 24)).heap.size = Vk.heap.size + 1 := by simp
                  replace HB := Lib.hid (HB.out.trans (hbl.mono HB.out.size))
                  have kl := Lib.hid (Lok.new Vk 24 #[.int .i64 a1, .int .i64 a2, .int .i64 b1, .int .i64 b2, .int .i64 c1, .int .i64 c2])
                  clear hbl
                  generalize Vk.alloc (.cells #[.int .i64 a1, .int .i64 a2, .int .i64 b1, .int .i64 b2, .int .i64 c1, .int .i64 c2] 24) = Vl at *
                  rw [zk] at kl zl
                  have hbm := below_new1 Vl (.cells #[.int .i64 p, .int .i64 q] 23)
                  replace kk := Lib.hid (kk.out.keep hbm)
                  replace kl := Lib.hid (kl.out.keep hbm)
                  have zm : (Vl.alloc (.cells #[.int .i64 p, .int .i64 q] 23)).heap.size = Vl.heap.size + 1 := by simp
                  replace HB := Lib.hid (HB.out.trans (hbm.mono HB.out.size))
                  have km := Lib.hid (Lok.new Vl 23 #[.int .i64 p, .int .i64 q])
                  clear hbm
                  generalize Vl.alloc (.cells #[.int .i64 p, .int .i64 q] 23) = Vm at *
                  rw [zl] at km
                  clear zk zl zm
                  have k0 := kk.out.cell (i := 0) rfl
                  have k1 := kk.out.cell (i := 1) rfl
                  have l0 := kl.out.cell (i := 0) rfl
                  have l1 := kl.out.cell (i := 1) rfl
                  have l2 := kl.out.cell (i := 2) rfl
                  have l3 := kl.out.cell (i := 3) rfl
                  have l4 := kl.out.cell (i := 4) rfl
                  have l5 := kl.out.cell (i := 5) rfl
                  go_wp2_with fail
                  clear k0 k1 l0 l1 l2 l3 l4 l5
                  (((with_reducible refine (S1.out _).mono ?_); rintro e w1 ⟨rfl, hb1⟩); replace HB := Lib.hid (HB.out.trans (hb1.mono HB.out.size)); replace kk := Lib.hid (kk.out.keep hb1); replace kl := Lib.hid (kl.out.keep hb1); replace km := Lib.hid (km.out.keep hb1); clear hb1)
                  clear S1
                  have l0 := kl.out.cell (i := 0) rfl
                  have l1 := kl.out.cell (i := 1) rfl
                  have l2 := kl.out.cell (i := 2) rfl
                  have l3 := kl.out.cell (i := 3) rfl
                  have l4 := kl.out.cell (i := 4) rfl
                  have l5 := kl.out.cell (i := 5) rfl
                  have m0 := km.out.cell (i := 0) rfl
                  have m1 := km.out.cell (i := 1) rfl
                  go_wp2_with fail
                  clear l0 l1 l2 l3 l4 l5 m0 m1
                  (((with_reducible refine (I1.out _).mono ?_); rintro e w2 ⟨rfl, hb2⟩); replace HB := Lib.hid (HB.out.trans (hb2.mono HB.out.size)); replace kk := Lib.hid (kk.out.keep hb2); replace kl := Lib.hid (kl.out.keep hb2); replace km := Lib.hid (km.out.keep hb2); clear hb2)
                  clear I1
                  have k0 := kk.out.cell (i := 0) rfl
                  have k1 := kk.out.cell (i := 1) rfl
                  have m0 := km.out.cell (i := 0) rfl
                  have m1 := km.out.cell (i := 1) rfl
                  go_upto_region 8 with fail
                  clear k0 k1 m0 m1
                  have k0 := kk.out.cell (i := 0) rfl
                  have k1 := kk.out.cell (i := 1) rfl
                  have l0 := kl.out.cell (i := 0) rfl
                  have l1 := kl.out.cell (i := 1) rfl
                  have l2 := kl.out.cell (i := 2) rfl
                  have l3 := kl.out.cell (i := 3) rfl
                  have l4 := kl.out.cell (i := 4) rfl
                  have l5 := kl.out.cell (i := 5) rfl
                  go_wp2_with fail
                  clear k0 k1 l0 l1 l2 l3 l4 l5
                  (((with_reducible refine (S2.out _).mono ?_); rintro e w3 ⟨rfl, hb3⟩); replace HB := Lib.hid (HB.out.trans (hb3.mono HB.out.size)); replace kk := Lib.hid (kk.out.keep hb3); replace kl := Lib.hid (kl.out.keep hb3); replace km := Lib.hid (km.out.keep hb3); clear hb3)
                  clear S2
                  go_wp2_with fail
                  (((with_reducible refine (ME.out _).mono ?_); rintro e w4 ⟨rfl, hb4⟩); replace HB := Lib.hid (HB.out.trans (hb4.mono HB.out.size)); replace kk := Lib.hid (kk.out.keep hb4); replace kl := Lib.hid (kl.out.keep hb4); replace km := Lib.hid (km.out.keep hb4); clear hb4)
                  rcases HW.out with rfl | ⟨rfl, -⟩
                  · clear HW ME
                    go_wp2
                    all_goals go_ret
                    all_goals exact ⟨rfl, HB.out⟩
                  · clear HW ME
                    go_wp2
                    all_goals go_ret
                    all_goals exact ⟨rfl, HB.out⟩
              · have j1 : decide (y ≤ q) = false := decide_eq_false i2
                clear hq
                go_enter Try.func7, Try.ntmps7
                go_upto_region 1 with fail
                have hbk := below_new1 w (.cells #[.int .i64 x, .int .i64 y] 23)
                have zk : (w.alloc (.cells #[.int .i64 x, .int .i64 y] 23)).heap.size = w.heap.size + 1 := by simp
                have HB := Lib.hid hbk
                have kk := Lib.hid (Lok.new w 23 #[.int .i64 x, .int .i64 y])
                clear hbk
                generalize w.alloc (.cells #[.int .i64 x, .int .i64 y] 23) = Vk at *
                have hbl := below_new1 Vk (.cells #[.int .i64 a1, .int .i64 a2, .int .i64 b1, .int .i64 b2, .int .i64 c1, .int .i64 c2] 24)
                replace kk := Lib.hid (kk.out.keep hbl)
                have zl : (Vk.alloc (.cells #[.int .i64 a1, .int .i64 a2, .int .i64 b1, .int .i64 b2, .int .i64 c1, .int .i64 c2] 24)).heap.size = Vk.heap.size + 1 := by simp
                replace HB := Lib.hid (HB.out.trans (hbl.mono HB.out.size))
                have kl := Lib.hid (Lok.new Vk 24 #[.int .i64 a1, .int .i64 a2, .int .i64 b1, .int .i64 b2, .int .i64 c1, .int .i64 c2])
                clear hbl
                generalize Vk.alloc (.cells #[.int .i64 a1, .int .i64 a2, .int .i64 b1, .int .i64 b2, .int .i64 c1, .int .i64 c2] 24) = Vl at *
                rw [zk] at kl zl
                have hbm := below_new1 Vl (.cells #[.int .i64 p, .int .i64 q] 23)
                replace kk := Lib.hid (kk.out.keep hbm)
                replace kl := Lib.hid (kl.out.keep hbm)
                have zm : (Vl.alloc (.cells #[.int .i64 p, .int .i64 q] 23)).heap.size = Vl.heap.size + 1 := by simp
                replace HB := Lib.hid (HB.out.trans (hbm.mono HB.out.size))
                have km := Lib.hid (Lok.new Vl 23 #[.int .i64 p, .int .i64 q])
                clear hbm
                generalize Vl.alloc (.cells #[.int .i64 p, .int .i64 q] 23) = Vm at *
                rw [zl] at km
                clear zk zl zm
                have k0 := kk.out.cell (i := 0) rfl
                have k1 := kk.out.cell (i := 1) rfl
                have l0 := kl.out.cell (i := 0) rfl
                have l1 := kl.out.cell (i := 1) rfl
                have l2 := kl.out.cell (i := 2) rfl
                have l3 := kl.out.cell (i := 3) rfl
                have l4 := kl.out.cell (i := 4) rfl
                have l5 := kl.out.cell (i := 5) rfl
                go_wp2_with fail
                clear k0 k1 l0 l1 l2 l3 l4 l5
                (((with_reducible refine (S1.out _).mono ?_); rintro e w1 ⟨rfl, hb1⟩); replace HB := Lib.hid (HB.out.trans (hb1.mono HB.out.size)); replace kk := Lib.hid (kk.out.keep hb1); replace kl := Lib.hid (kl.out.keep hb1); replace km := Lib.hid (km.out.keep hb1); clear hb1)
                clear S1
                have l0 := kl.out.cell (i := 0) rfl
                have l1 := kl.out.cell (i := 1) rfl
                have l2 := kl.out.cell (i := 2) rfl
                have l3 := kl.out.cell (i := 3) rfl
                have l4 := kl.out.cell (i := 4) rfl
                have l5 := kl.out.cell (i := 5) rfl
                have m0 := km.out.cell (i := 0) rfl
                have m1 := km.out.cell (i := 1) rfl
                go_wp2_with fail
                clear l0 l1 l2 l3 l4 l5 m0 m1
                (((with_reducible refine (I1.out _).mono ?_); rintro e w2 ⟨rfl, hb2⟩); replace HB := Lib.hid (HB.out.trans (hb2.mono HB.out.size)); replace kk := Lib.hid (kk.out.keep hb2); replace kl := Lib.hid (kl.out.keep hb2); replace km := Lib.hid (km.out.keep hb2); clear hb2)
                clear I1
                have k0 := kk.out.cell (i := 0) rfl
                have k1 := kk.out.cell (i := 1) rfl
                have m0 := km.out.cell (i := 0) rfl
                have m1 := km.out.cell (i := 1) rfl
                go_upto_region 8 with fail
                clear k0 k1 m0 m1
                have k0 := kk.out.cell (i := 0) rfl
                have k1 := kk.out.cell (i := 1) rfl
                have l0 := kl.out.cell (i := 0) rfl
                have l1 := kl.out.cell (i := 1) rfl
                have l2 := kl.out.cell (i := 2) rfl
                have l3 := kl.out.cell (i := 3) rfl
                have l4 := kl.out.cell (i := 4) rfl
                have l5 := kl.out.cell (i := 5) rfl
                go_wp2_with fail
                clear k0 k1 l0 l1 l2 l3 l4 l5
                (((with_reducible refine (S2.out _).mono ?_); rintro e w3 ⟨rfl, hb3⟩); replace HB := Lib.hid (HB.out.trans (hb3.mono HB.out.size)); replace kk := Lib.hid (kk.out.keep hb3); replace kl := Lib.hid (kl.out.keep hb3); replace km := Lib.hid (km.out.keep hb3); clear hb3)
                clear S2
                go_wp2_with fail
                (((with_reducible refine (ME.out _).mono ?_); rintro e w4 ⟨rfl, hb4⟩); replace HB := Lib.hid (HB.out.trans (hb4.mono HB.out.size)); replace kk := Lib.hid (kk.out.keep hb4); replace kl := Lib.hid (kl.out.keep hb4); replace km := Lib.hid (km.out.keep hb4); clear hb4)
                rcases HW.out with rfl | ⟨rfl, -⟩
                · clear HW ME
                  go_wp2
                  all_goals go_ret
                  all_goals exact ⟨rfl, HB.out⟩
                · clear HW ME
                  go_wp2
                  all_goals go_ret
                  all_goals exact ⟨rfl, HB.out⟩
            · have j0 : decide (x ≤ p) = false := decide_eq_false i1
              clear hq
              go_enter Try.func7, Try.ntmps7
              go_upto_region 1 with fail
              have hbk := below_new1 w (.cells #[.int .i64 x, .int .i64 y] 23)
              have zk : (w.alloc (.cells #[.int .i64 x, .int .i64 y] 23)).heap.size = w.heap.size + 1 := by simp
              have HB := Lib.hid hbk
              have kk := Lib.hid (Lok.new w 23 #[.int .i64 x, .int .i64 y])
              clear hbk
              generalize w.alloc (.cells #[.int .i64 x, .int .i64 y] 23) = Vk at *
              have hbl := below_new1 Vk (.cells #[.int .i64 a1, .int .i64 a2, .int .i64 b1, .int .i64 b2, .int .i64 c1, .int .i64 c2] 24)
              replace kk := Lib.hid (kk.out.keep hbl)
              have zl : (Vk.alloc (.cells #[.int .i64 a1, .int .i64 a2, .int .i64 b1, .int .i64 b2, .int .i64 c1, .int .i64 c2] 24)).heap.size = Vk.heap.size + 1 := by simp
              replace HB := Lib.hid (HB.out.trans (hbl.mono HB.out.size))
              have kl := Lib.hid (Lok.new Vk 24 #[.int .i64 a1, .int .i64 a2, .int .i64 b1, .int .i64 b2, .int .i64 c1, .int .i64 c2])
              clear hbl
              generalize Vk.alloc (.cells #[.int .i64 a1, .int .i64 a2, .int .i64 b1, .int .i64 b2, .int .i64 c1, .int .i64 c2] 24) = Vl at *
              rw [zk] at kl zl
              have hbm := below_new1 Vl (.cells #[.int .i64 p, .int .i64 q] 23)
              replace kk := Lib.hid (kk.out.keep hbm)
              replace kl := Lib.hid (kl.out.keep hbm)
              have zm : (Vl.alloc (.cells #[.int .i64 p, .int .i64 q] 23)).heap.size = Vl.heap.size + 1 := by simp
              replace HB := Lib.hid (HB.out.trans (hbm.mono HB.out.size))
              have km := Lib.hid (Lok.new Vl 23 #[.int .i64 p, .int .i64 q])
              clear hbm
              generalize Vl.alloc (.cells #[.int .i64 p, .int .i64 q] 23) = Vm at *
              rw [zl] at km
              clear zk zl zm
              have k0 := kk.out.cell (i := 0) rfl
              have k1 := kk.out.cell (i := 1) rfl
              have l0 := kl.out.cell (i := 0) rfl
              have l1 := kl.out.cell (i := 1) rfl
              have l2 := kl.out.cell (i := 2) rfl
              have l3 := kl.out.cell (i := 3) rfl
              have l4 := kl.out.cell (i := 4) rfl
              have l5 := kl.out.cell (i := 5) rfl
              go_wp2_with fail
              clear k0 k1 l0 l1 l2 l3 l4 l5
              (((with_reducible refine (S1.out _).mono ?_); rintro e w1 ⟨rfl, hb1⟩); replace HB := Lib.hid (HB.out.trans (hb1.mono HB.out.size)); replace kk := Lib.hid (kk.out.keep hb1); replace kl := Lib.hid (kl.out.keep hb1); replace km := Lib.hid (km.out.keep hb1); clear hb1)
              clear S1
              have l0 := kl.out.cell (i := 0) rfl
              have l1 := kl.out.cell (i := 1) rfl
              have l2 := kl.out.cell (i := 2) rfl
              have l3 := kl.out.cell (i := 3) rfl
              have l4 := kl.out.cell (i := 4) rfl
              have l5 := kl.out.cell (i := 5) rfl
              have m0 := km.out.cell (i := 0) rfl
              have m1 := km.out.cell (i := 1) rfl
              go_wp2_with fail
              clear l0 l1 l2 l3 l4 l5 m0 m1
              (((with_reducible refine (I1.out _).mono ?_); rintro e w2 ⟨rfl, hb2⟩); replace HB := Lib.hid (HB.out.trans (hb2.mono HB.out.size)); replace kk := Lib.hid (kk.out.keep hb2); replace kl := Lib.hid (kl.out.keep hb2); replace km := Lib.hid (km.out.keep hb2); clear hb2)
              clear I1
              have k0 := kk.out.cell (i := 0) rfl
              have k1 := kk.out.cell (i := 1) rfl
              have m0 := km.out.cell (i := 0) rfl
              have m1 := km.out.cell (i := 1) rfl
              go_upto_region 8 with fail
              clear k0 k1 m0 m1
              have k0 := kk.out.cell (i := 0) rfl
              have k1 := kk.out.cell (i := 1) rfl
              have l0 := kl.out.cell (i := 0) rfl
              have l1 := kl.out.cell (i := 1) rfl
              have l2 := kl.out.cell (i := 2) rfl
              have l3 := kl.out.cell (i := 3) rfl
              have l4 := kl.out.cell (i := 4) rfl
              have l5 := kl.out.cell (i := 5) rfl
              go_wp2_with fail
              clear k0 k1 l0 l1 l2 l3 l4 l5
              (((with_reducible refine (S2.out _).mono ?_); rintro e w3 ⟨rfl, hb3⟩); replace HB := Lib.hid (HB.out.trans (hb3.mono HB.out.size)); replace kk := Lib.hid (kk.out.keep hb3); replace kl := Lib.hid (kl.out.keep hb3); replace km := Lib.hid (km.out.keep hb3); clear hb3)
              clear S2
              go_wp2_with fail
              (((with_reducible refine (ME.out _).mono ?_); rintro e w4 ⟨rfl, hb4⟩); replace HB := Lib.hid (HB.out.trans (hb4.mono HB.out.size)); replace kk := Lib.hid (kk.out.keep hb4); replace kl := Lib.hid (kl.out.keep hb4); replace km := Lib.hid (km.out.keep hb4); clear hb4)
              rcases HW.out with rfl | ⟨rfl, -⟩
              · clear HW ME
                go_wp2
                all_goals go_ret
                all_goals exact ⟨rfl, HB.out⟩
              · clear HW ME
                go_wp2
                all_goals go_ret
                all_goals exact ⟨rfl, HB.out⟩
end Go.Proofs.Ythdcldbocakbpaa
