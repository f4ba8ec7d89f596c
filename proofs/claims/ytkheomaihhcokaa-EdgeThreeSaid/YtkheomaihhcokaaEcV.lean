/-
  The program's package edge: Parts; all that EdgeOK asks. (gen/EcV.py)
-/
import Derived.Test.YtkheomaihhcokaaEcU
import Derived.Test.YtkheomaihhcokaaEcO
import Derived.Test.YtkheomaihhcokaaEcB
namespace Go.Proofs.Ytkheomaihhcokaa
open Go.RowKit

theorem repeat_all (g n : Nat) (w : World) (h : Lok w g 3 #[.int .i64 (-1)]) (hn : n ≤ 500) :
    Calls Try.prog 39 #[.slice (some ⟨g, 0, none⟩) 1 1, .int .i64 n] w fun e w' => (∃ v, e = .returned v ∧ OwnI w' w.heap.size v (List.replicate n (-1))) ∧ Below w.heap.size w w' := by
  rcases Nat.eq_zero_or_pos n with rfl | hp
  · exact repeat_none g w
  · exact repeat_any g n w h hn hp
set_option maxRecDepth 100000 in
set_option maxHeartbeats 16000000 in
theorem partsE_any (pa1 pa2 pa3 pa4 : Option Addr) (n1 n2 n3 n4 c1 c2 c3 c4 : Nat) (FV FT FN FC : Nat → Nat → Int) (w : World) (hm : MsW w pa1 pa2 pa3 pa4 n1 n2 n3 n4 FV FT FN FC) :
    Calls Try.prog 15 #[.agg #[.slice pa1 n1 c1, .slice pa2 n2 c2, .slice pa3 n3 c3, .slice pa4 n4 c4]] w fun e w' => (∃ v, e = .returned (.tuple #[v, .int .i64 (agE (msB n1 n2 n3 n4 FV FT FN FC))]) ∧ OwnI w' w.heap.size v (ptA (msB n1 n2 n3 n4 FV FT FN FC) FC n4)) ∧ Below w.heap.size w w' := by
  have HB := Lib.hid (Below.refl w.heap.size w)
  have M := Lib.hid hm
  have IS := Lib.hid (fun W (h : Below w.heap.size w W) => mis_any pa1 pa2 pa3 pa4 n1 n2 n3 n4 c1 c2 c3 c4 FV FT FN FC W (hm.keep h))
  clear hm
  cases hr : msB n1 n2 n3 n4 FV FT FN FC with
  | false =>
    rw [hr] at IS
    clear hr
    rw [show agE false = 1 from rfl, show ptA false FC n4 = [] from rfl]
    go_enter Try.func15, Try.ntmps15
    go_upto_region 1 with fail
    have hbm := below_new1 w (.cells #[.slice pa1 n1 c1, .slice pa2 n2 c2, .slice pa3 n3 c3, .slice pa4 n4 c4] 26)
    have zm : (w.alloc (.cells #[.slice pa1 n1 c1, .slice pa2 n2 c2, .slice pa3 n3 c3, .slice pa4 n4 c4] 26)).heap.size = w.heap.size + 1 := by simp
    have HB := Lib.hid hbm
    have km := Lib.hid (Lok.new w 26 #[.slice pa1 n1 c1, .slice pa2 n2 c2, .slice pa3 n3 c3, .slice pa4 n4 c4])
    clear hbm
    generalize w.alloc (.cells #[.slice pa1 n1 c1, .slice pa2 n2 c2, .slice pa3 n3 c3, .slice pa4 n4 c4] 26) = Vm at *
    clear zm
    have m0 := km.out.cell (i := 0) rfl
    have m1 := km.out.cell (i := 1) rfl
    have m2 := km.out.cell (i := 2) rfl
    have m3 := km.out.cell (i := 3) rfl
    go_wp2_with fail
    clear m0 m1 m2 m3
    (((with_reducible refine (IS.out _ HB.out).mono ?_); rintro e w1 ⟨rfl, hb1⟩); replace HB := Lib.hid (HB.out.trans (hb1.mono HB.out.size)); replace km := Lib.hid (km.out.keep hb1); clear hb1)
    clear IS
    clear km
    go_wp2
    go_ret2
    exact ⟨⟨_, rfl, OwnI.nil _ _⟩, HB.out⟩
  | true =>
    rw [hr] at IS
    obtain ⟨h500, hF⟩ := ms_rng hr
    clear hr
    rw [show agE true = 0 from rfl, show ptA true FC n4 = ptR FC n4 n4 from rfl]
    have NB := Lib.hid (fun W (h : Below w.heap.size w W) => neighbours_any pa1 pa2 pa3 pa4 n1 n2 n3 n4 c1 c2 c3 c4 FV FT FN FC W (M.out.keep h) hF (by omega))
    have SP := Lib.hid (fun W gp c lo f gm gk b base P (q1 : Below w.heap.size w W) q2 q3 q4 q5 q6 q7 q8 => spread_any pa1 pa2 pa3 pa4 n1 n2 n3 n4 c1 c2 c3 c4 FV FT FN FC w W gp c lo f gm gk b base P M.out q1 h500 hF q2 q3 q4 q5 q6 q7 q8)
    clear hF M
    go_enter Try.func15, Try.ntmps15
    go_upto_region 1 with fail
    have hbm := below_new1 w (.cells #[.slice pa1 n1 c1, .slice pa2 n2 c2, .slice pa3 n3 c3, .slice pa4 n4 c4] 26)
    have zm : (w.alloc (.cells #[.slice pa1 n1 c1, .slice pa2 n2 c2, .slice pa3 n3 c3, .slice pa4 n4 c4] 26)).heap.size = w.heap.size + 1 := by simp
    have HB := Lib.hid hbm
    have km := Lib.hid (Lok.new w 26 #[.slice pa1 n1 c1, .slice pa2 n2 c2, .slice pa3 n3 c3, .slice pa4 n4 c4])
    clear hbm
    generalize w.alloc (.cells #[.slice pa1 n1 c1, .slice pa2 n2 c2, .slice pa3 n3 c3, .slice pa4 n4 c4] 26) = Vm at *
    clear zm
    have m0 := km.out.cell (i := 0) rfl
    have m1 := km.out.cell (i := 1) rfl
    have m2 := km.out.cell (i := 2) rfl
    have m3 := km.out.cell (i := 3) rfl
    go_wp2_with fail
    clear m0 m1 m2 m3
    (((with_reducible refine (IS.out _ HB.out).mono ?_); rintro e w1 ⟨rfl, hb1⟩); replace HB := Lib.hid (HB.out.trans (hb1.mono HB.out.size)); replace km := Lib.hid (km.out.keep hb1); clear hb1)
    clear IS
    have m0 := km.out.cell (i := 0) rfl
    have m1 := km.out.cell (i := 1) rfl
    have m2 := km.out.cell (i := 2) rfl
    have m3 := km.out.cell (i := 3) rfl
    have hbk : Below w1.heap.size w1 (w1.alloc (.cells #[.int .i64 (-1)] 3)) := (Below.refl _ _).alloc (Nat.le_refl _) _
    have KC := Lib.hid (Lok.new w1 3 #[.int .i64 (-1)])
    have HB1 := Lib.hid (HB.out.trans (hbk.mono HB.out.size))
    have km1 := Lib.hid (km.out.keep hbk)
    have u0 := (km1.out).cell (i := 0) rfl
    have u1 := (km1.out).cell (i := 1) rfl
    have u2 := (km1.out).cell (i := 2) rfl
    have u3' := (km1.out).cell (i := 3) rfl
    have RE := Lib.hid (repeat_all w1.heap.size n4 _ KC.out h500)
    clear hbk KC km HB m0 m1 m2 m3
    go_wp2_with fail
    ((with_reducible refine RE.out.mono ?_); rintro e w5 ⟨⟨v5, rfl, hO5⟩, hb5⟩)
    have HB5 := Lib.hid (HB1.out.trans (hb5.mono HB1.out.size))
    have km5 := Lib.hid (km1.out.keep hb5)
    have O5 := Lib.hid (ownI_mono hO5 HB1.out.size)
    clear RE hO5 hb5 HB1 km1 u0 u1 u2 u3'
    have m0 := km5.out.cell (i := 0) rfl
    have m1 := km5.out.cell (i := 1) rfl
    have m2 := km5.out.cell (i := 2) rfl
    have m3 := km5.out.cell (i := 3) rfl
    go_wp2_with fail
    ((with_reducible refine (NB.out w5 HB5.out).mono ?_); rintro e w6 ⟨⟨gm, gk, b, base, rfl, hN6⟩, hb6⟩)
    have HB6 := Lib.hid (HB5.out.trans (hb6.mono HB5.out.size))
    have O6 := Lib.hid (O5.out.keep hb6)
    have N6 := Lib.hid hN6
    have hl6 := hb6.size
    have vlow := Lib.hid (fun g hg => (World.ownsRow.lt O5.out g hg).2)
    clear NB hN6 hb6 O5 HB5 km5 m0 m1 m2 m3
    rcases ownI_nil_or O6.out with ⟨rfl, hL⟩ | ⟨gp, cp, rfl, hg1, -, -⟩
    · have hn0 : n4 = 0 := by simpa using congrArg List.length hL
      subst hn0
      clear hL
      unfold nbV
      go_wp2_with fail
      go_loopw [6, 19] (fun _ x wr => x = .int .i64 0 ∧ wr = w6) (fun _ _ _ => 0)
      case atStart => exact ⟨rfl, rfl⟩
      case round =>
        obtain ⟨rfl, rfl⟩ := hrel
        go_wp2
        go_ret2
        exact ⟨⟨_, rfl, OwnI.nil _ _⟩, HB6.out⟩
    · have hgl := vlow.out gp rfl
      rw [List.length_replicate] at O6
      rw [List.length_replicate]
      clear vlow
      generalize hlo : w5.heap.size = lo at *
      clear hlo
      unfold nbV
      have SP2 : Hid (∀ W f P, _) := Lib.hid (fun W f P => SP.out W gp cp lo f gm gk b base P)
      unfold nbV at SP2
      clear SP
      go_wp2_with fail
      go_loopw [6, 19] (fun _ x wr => ∃ (f : Nat) (P : List Int), x = .int .i64 f ∧ f ≤ n4 ∧ PtI FC n4 f P ∧ OwnI wr w.heap.size (.slice (some ⟨gp, 0, none⟩) n4 cp) P ∧ NbW lo wr gm gk b base pa1 pa2 pa3 pa4 n1 n2 n3 n4 c1 c2 c3 c4 FC ∧ Below w.heap.size w wr ∧ lo ≤ wr.heap.size) (fun _ x _ => n4 - (intOf x).toNat)
      case atStart => exact ⟨0, _, rfl, Nat.zero_le _, pt_start FC n4, O6.out, N6.out, HB6.out, hl6⟩
      case round =>
        clear O6 N6 HB6 hl6
        obtain ⟨f, P, rfl, hf, hP, hO, hN, hB, hl⟩ := hrel
        have PI := Lib.hid hP
        have OP := Lib.hid hO
        have NN := Lib.hid hN
        have BV := Lib.hid hB
        have hPl := hP.1
        clear hP hO hN hB
        by_cases hfn : f < n4
        · obtain ⟨y0, y1⟩ := OP.out.cells (i := f) (by omega)
          obtain ⟨x, hx⟩ : ∃ x, x = P.getD f 0 := ⟨_, rfl⟩
          rw [← hx] at y0
          have HX := Lib.hid hx
          clear hx
          have f0 : (0 : Int) ≤ (f : Int) := by omega
          have f1 : (f : Int) < (n4 : Int) := by omega
          have f2 : ((f : Int)).toNat = f := by omega
          by_cases hx1 : x = -1
          · have QX : Hid (P.getD f 0 = -1) := Lib.hid (by rw [← HX.out]; exact hx1)
            subst hx1
            have SC := Lib.hid (SP2.out wr f P BV.out NN.out hg1 hgl hl OP.out hPl hfn)
            go_wp2_with fail
            ((with_reducible refine SC.out.mono ?_); rintro e w7 ⟨rfl, ⟨Q, R, hS, hD, hQ⟩, hN7, hB7, hz7⟩)
            have PI7 := Lib.hid (pt_spread PI.out hfn QX.out hS hD)
            have OQ := Lib.hid hQ
            have NN7 := Lib.hid hN7
            have BV7 := Lib.hid hB7
            have hl7 := Nat.le_trans hl hz7
            clear SC hS hD hQ hN7 hB7 hz7 y0 y1
            go_wp2
            go_roundw
            case rel => exact ⟨f + 1, Q, by go_num, hfn, PI7.out, OQ.out, NN7.out, BV7.out, hl7⟩
            case measure => simp [intOf]; omega
          · have x1 : (x == -1) = false := by rw [beq_eq_false_iff_ne]; exact hx1
            have PI7 := Lib.hid (pt_told PI.out hfn (by rw [← HX.out]; exact hx1))
            go_wp2
            go_roundw
            case rel => exact ⟨f + 1, P, by go_num, hfn, PI7.out, OP.out, NN.out, BV.out, hl⟩
            case measure => simp [intOf]; omega
        · obtain rfl : f = n4 := by omega
          have E := Lib.hid (pt_end PI.out)
          go_wp2
          go_ret2
          exact ⟨⟨_, rfl, by rw [← E.out]; exact OP.out⟩, BV.out⟩
theorem edge_ok : EdgeOK where
  edges := fun pa1 pa2 pa3 pa4 n1 n2 n3 n4 c1 c2 c3 c4 FV FT FN FC w hm h20 _ => edgesE_any pa1 pa2 pa3 pa4 n1 n2 n3 n4 c1 c2 c3 c4 FV FT FN FC w hm h20
  next := fun pa1 pa2 pa3 pa4 n1 n2 n3 n4 c1 c2 c3 c4 FV FT FN FC i w hm _ _ => nextE_any pa1 pa2 pa3 pa4 n1 n2 n3 n4 c1 c2 c3 c4 FV FT FN FC i w hm
  parts := fun pa1 pa2 pa3 pa4 n1 n2 n3 n4 c1 c2 c3 c4 FV FT FN FC w hm _ _ => partsE_any pa1 pa2 pa3 pa4 n1 n2 n3 n4 c1 c2 c3 c4 FV FT FN FC w hm
  find := find_any
  loose := loose_any
end Go.Proofs.Ytkheomaihhcokaa
