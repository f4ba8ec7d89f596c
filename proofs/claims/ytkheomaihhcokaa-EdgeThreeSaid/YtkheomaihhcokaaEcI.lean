/-
  The program's package edge: neighbours, Next. (gen/EcI.py)
-/
import Derived.Test.YtkheomaihhcokaaEcH
namespace Go.Proofs.Ytkheomaihhcokaa
open Go.RowKit

theorem ms_rng {n1 n2 n3 n4 : Nat} {FV FT FN FC : Nat → Nat → Int} (hr : msB n1 n2 n3 n4 FV FT FN FC = true) : n4 ≤ 500 ∧ ∀ i, i < n4 → ∀ j, j = 0 ∨ j = 3 ∨ j = 6 → 0 ≤ FC i j ∧ FC i j < 2000 := by
  unfold msB at hr
  rw [Bool.and_eq_true, Bool.and_eq_true, Bool.and_eq_true, Bool.and_eq_true] at hr
  have s := shB_iff.1 hr.1
  refine ⟨s.2, fun i hi j hj => ?_⟩
  have t := (allB_iff _ _).1 hr.2.2.2.2 i hi
  have t2 := fun k (hk : k < 3) => (cnB_iff.1 ((allB_iff _ _).1 t k hk)).1
  rcases hj with rfl | rfl | rfl
  · have z : 0 ≤ FC i 0 ∧ FC i 0 < (n1 : Int) := t2 0 (by omega); exact ⟨z.1, by have := z.2; have := s.1.1; omega⟩
  · have z : 0 ≤ FC i 3 ∧ FC i 3 < (n1 : Int) := t2 1 (by omega); exact ⟨z.1, by have := z.2; have := s.1.1; omega⟩
  · have z : 0 ≤ FC i 6 ∧ FC i 6 < (n1 : Int) := t2 2 (by omega); exact ⟨z.1, by have := z.2; have := s.1.1; omega⟩
/-- What the closure that tells what is next has captured, from block lo on. -/
def NbW (lo : Nat) (W : World) (gm gk b base : Nat) (pa1 pa2 pa3 pa4 : Option Addr) (n1 n2 n3 n4 c1 c2 c3 c4 : Nat) (FC : Nat → Nat → Int) : Prop :=
  (lo ≤ gm ∧ lo ≤ gk ∧ lo ≤ b) ∧ MapG W base b (fun _ => False) (ownS FC n4) ∧ Lok W gm 26 #[.slice pa1 n1 c1, .slice pa2 n2 c2, .slice pa3 n3 c3, .slice pa4 n4 c4] ∧ Lok W gk 55 #[.map (some b)]
theorem NbW.keep {lo : Nat} {W W' : World} {gm gk b base : Nat} {pa1 pa2 pa3 pa4 : Option Addr} {n1 n2 n3 n4 c1 c2 c3 c4 : Nat} {FC : Nat → Nat → Int} (h : NbW lo W gm gk b base pa1 pa2 pa3 pa4 n1 n2 n3 n4 c1 c2 c3 c4 FC) (hb : Below W.heap.size W W') : NbW lo W' gm gk b base pa1 pa2 pa3 pa4 n1 n2 n3 n4 c1 c2 c3 c4 FC :=
  ⟨h.1, h.2.1.keep hb, h.2.2.1.keep hb, h.2.2.2.keep hb⟩
theorem MapG.above {W W' : World} {lo base b : Nat} {N : Nat → Prop} {S : Int → Int → List Int} (h : MapG W base b N S) (hl : lo ≤ b) (hk : ∀ k, lo ≤ k → k < W.heap.size → W'.heap[k]? = W.heap[k]?) : MapG W' base b N S := by
  obtain ⟨es, clock, h1, h2, h3, h4, h5, h6, h7⟩ := h
  refine ⟨es, clock, (hk b hl (Array.getElem?_eq_some_iff.1 h1).1).trans h1, h2, h3, fun e he => ?_, h5, h6, h7⟩
  obtain ⟨a, c, q1, q2, q3, q4⟩ := h4 e he
  exact ⟨a, c, q1, q2, q3, ownI_block q4 fun g hg => hk g (by have := (World.ownsRow.lt q4 g hg).1; omega) (World.ownsRow.lt q4 g hg).2⟩
theorem NbW.above {lo : Nat} {W W' : World} {gm gk b base : Nat} {pa1 pa2 pa3 pa4 : Option Addr} {n1 n2 n3 n4 c1 c2 c3 c4 : Nat} {FC : Nat → Nat → Int} (h : NbW lo W gm gk b base pa1 pa2 pa3 pa4 n1 n2 n3 n4 c1 c2 c3 c4 FC) (hk : ∀ k, lo ≤ k → k < W.heap.size → W'.heap[k]? = W.heap[k]?) : NbW lo W' gm gk b base pa1 pa2 pa3 pa4 n1 n2 n3 n4 c1 c2 c3 c4 FC :=
  ⟨h.1, h.2.1.above h.1.2.2 hk, (hk gm h.1.1 (Lok.lt h.2.2.1)).trans h.2.2.1, (hk gk h.1.2.1 (Lok.lt h.2.2.2)).trans h.2.2.2⟩
/-- A value is that closure. -/
def nbV (gm gk : Nat) : Value := .func (.func 54) #[] #[.pointer (some ⟨gm, 0, none⟩), .pointer (some ⟨gk, 0, none⟩)]
set_option maxRecDepth 100000 in
set_option maxHeartbeats 8000000 in
theorem neighbours_any (pa1 pa2 pa3 pa4 : Option Addr) (n1 n2 n3 n4 c1 c2 c3 c4 : Nat) (FV FT FN FC : Nat → Nat → Int) (w : World) (hm : MsW w pa1 pa2 pa3 pa4 n1 n2 n3 n4 FV FT FN FC) (hF : ∀ i, i < n4 → ∀ j, j = 0 ∨ j = 3 ∨ j = 6 → 0 ≤ FC i j ∧ FC i j < 2000) (h4 : n4 ≤ 1000) :
    Calls Try.prog 37 #[.agg #[.slice pa1 n1 c1, .slice pa2 n2 c2, .slice pa3 n3 c3, .slice pa4 n4 c4]] w fun e w' => (∃ gm gk b base, e = .returned (nbV gm gk) ∧ NbW w.heap.size w' gm gk b base pa1 pa2 pa3 pa4 n1 n2 n3 n4 c1 c2 c3 c4 FC) ∧ Below w.heap.size w w' := by
  have HB := Lib.hid (Below.refl w.heap.size w)
  have OW := Lib.hid (fun W (h : Below w.heap.size w W) => owners_any pa1 pa2 pa3 pa4 n1 n2 n3 n4 c1 c2 c3 c4 FV FT FN FC W (hm.keep h) hF h4)
  clear hm hF
  go_enter Try.func37, Try.ntmps37
  go_upto_region 1 with fail
  have hbm := below_new1 w (.cells #[.slice pa1 n1 c1, .slice pa2 n2 c2, .slice pa3 n3 c3, .slice pa4 n4 c4] 26)
  have zm : (w.alloc (.cells #[.slice pa1 n1 c1, .slice pa2 n2 c2, .slice pa3 n3 c3, .slice pa4 n4 c4] 26)).heap.size = w.heap.size + 1 := by simp
  have HB := Lib.hid hbm
  have km := Lib.hid (Lok.new w 26 #[.slice pa1 n1 c1, .slice pa2 n2 c2, .slice pa3 n3 c3, .slice pa4 n4 c4])
  clear hbm
  generalize w.alloc (.cells #[.slice pa1 n1 c1, .slice pa2 n2 c2, .slice pa3 n3 c3, .slice pa4 n4 c4] 26) = Vm at *
  clear zm
  have m0 := km.out.cell (i := 0) rfl
  have m1 := km.out.cell (i := 1) rfl
  have m2 := km.out.cell (i := 2) rfl
  have m3 := km.out.cell (i := 3) rfl
  have hwm : w.heap.size ≤ Vm.heap.size := HB.out.size
  go_wp2_with fail
  ((with_reducible refine (OW.out _ HB.out).mono ?_); rintro e w5 ⟨⟨b, base, rfl, hb, hG⟩, hb5⟩)
  clear m0 m1 m2 m3 OW
  replace HB := Lib.hid (HB.out.trans (hb5.mono HB.out.size))
  replace km := Lib.hid (km.out.keep hb5)
  have MG := Lib.hid hG
  have hlb : w.heap.size ≤ b := Nat.le_trans (by have := km.out.lt; exact hwm) hb
  have hlk : w.heap.size ≤ w5.heap.size := HB.out.size
  clear hG hb5 hb
  go_upto_region 2 with fail
  have hbk := below_new1 w5 (.cells #[.map (some b)] 55)
  replace km := Lib.hid (km.out.keep hbk)
  replace MG := Lib.hid (MG.out.keep hbk)
  have zk : (w5.alloc (.cells #[.map (some b)] 55)).heap.size = w5.heap.size + 1 := by simp
  replace HB := Lib.hid (HB.out.trans (hbk.mono HB.out.size))
  have kk := Lib.hid (Lok.new w5 55 #[.map (some b)])
  clear hbk
  generalize w5.alloc (.cells #[.map (some b)] 55) = Vk at *
  clear zk
  go_wp2
  go_ret
  exact ⟨⟨_, _, b, base, rfl, ⟨Nat.le_refl _, hlk, hlb⟩, MG.out, km.out, kk.out⟩, HB.out⟩
set_option maxRecDepth 100000 in
set_option maxHeartbeats 16000000 in
theorem nextE_any (pa1 pa2 pa3 pa4 : Option Addr) (n1 n2 n3 n4 c1 c2 c3 c4 : Nat) (FV FT FN FC : Nat → Nat → Int) (i : Int) (w : World) (hm : MsW w pa1 pa2 pa3 pa4 n1 n2 n3 n4 FV FT FN FC) :
    Calls Try.prog 13 #[.agg #[.slice pa1 n1 c1, .slice pa2 n2 c2, .slice pa3 n3 c3, .slice pa4 n4 c4], .int .i64 i] w fun e w' => (∃ v, e = .returned (.tuple #[v, .int .i64 (agE (okN (msB n1 n2 n3 n4 FV FT FN FC) i n4))]) ∧ OwnI w' w.heap.size v (nxA (okN (msB n1 n2 n3 n4 FV FT FN FC) i n4) FC i n4)) ∧ Below w.heap.size w w' := by
  have HB := Lib.hid (Below.refl w.heap.size w)
  have M := Lib.hid hm
  have IS := Lib.hid (fun W (h : Below w.heap.size w W) => mis_any pa1 pa2 pa3 pa4 n1 n2 n3 n4 c1 c2 c3 c4 FV FT FN FC W (hm.keep h))
  clear hm
  unfold okN
  cases hr : msB n1 n2 n3 n4 FV FT FN FC with
  | false =>
    rw [hr] at IS
    clear hr
    rw [Bool.false_and, show agE false = 1 from rfl, show nxA false FC i n4 = [] from rfl]
    go_enter Try.func13, Try.ntmps13
    go_upto_region 1 with fail
    have hbm := below_new1 w (.cells #[.slice pa1 n1 c1, .slice pa2 n2 c2, .slice pa3 n3 c3, .slice pa4 n4 c4] 26)
    have zm : (w.alloc (.cells #[.slice pa1 n1 c1, .slice pa2 n2 c2, .slice pa3 n3 c3, .slice pa4 n4 c4] 26)).heap.size = w.heap.size + 1 := by simp
    have HB := Lib.hid hbm
    have km := Lib.hid (Lok.new w 26 #[.slice pa1 n1 c1, .slice pa2 n2 c2, .slice pa3 n3 c3, .slice pa4 n4 c4])
    clear hbm
    generalize w.alloc (.cells #[.slice pa1 n1 c1, .slice pa2 n2 c2, .slice pa3 n3 c3, .slice pa4 n4 c4] 26) = Vm at *
    clear zm
    have m0 := km.out.cell (i := 0) rfl
    have m1 := km.out.cell (i := 1) rfl
    have m2 := km.out.cell (i := 2) rfl
    have m3 := km.out.cell (i := 3) rfl
    go_wp2_with fail
    clear m0 m1 m2 m3
    (((with_reducible refine (IS.out _ HB.out).mono ?_); rintro e w1 ⟨rfl, hb1⟩); replace HB := Lib.hid (HB.out.trans (hb1.mono HB.out.size)); replace km := Lib.hid (km.out.keep hb1); clear hb1)
    clear IS
    clear km
    go_wp2
    go_ret2
    exact ⟨⟨_, rfl, OwnI.nil _ _⟩, HB.out⟩
  | true =>
    rw [hr] at IS
    obtain ⟨h500, hF⟩ := ms_rng hr
    clear hr
    rw [Bool.true_and]
    by_cases p0 : 0 ≤ i
    case neg =>
      rw [plB_no p0, show agE false = 1 from rfl, show nxA false FC i n4 = [] from rfl]
      have p1 : i < 0 := by omega
      go_enter Try.func13, Try.ntmps13
      go_upto_region 1 with fail
      have hbm := below_new1 w (.cells #[.slice pa1 n1 c1, .slice pa2 n2 c2, .slice pa3 n3 c3, .slice pa4 n4 c4] 26)
      have zm : (w.alloc (.cells #[.slice pa1 n1 c1, .slice pa2 n2 c2, .slice pa3 n3 c3, .slice pa4 n4 c4] 26)).heap.size = w.heap.size + 1 := by simp
      have HB := Lib.hid hbm
      have km := Lib.hid (Lok.new w 26 #[.slice pa1 n1 c1, .slice pa2 n2 c2, .slice pa3 n3 c3, .slice pa4 n4 c4])
      clear hbm
      generalize w.alloc (.cells #[.slice pa1 n1 c1, .slice pa2 n2 c2, .slice pa3 n3 c3, .slice pa4 n4 c4] 26) = Vm at *
      clear zm
      have m0 := km.out.cell (i := 0) rfl
      have m1 := km.out.cell (i := 1) rfl
      have m2 := km.out.cell (i := 2) rfl
      have m3 := km.out.cell (i := 3) rfl
      go_wp2_with fail
      clear m0 m1 m2 m3
      (((with_reducible refine (IS.out _ HB.out).mono ?_); rintro e w1 ⟨rfl, hb1⟩); replace HB := Lib.hid (HB.out.trans (hb1.mono HB.out.size)); replace km := Lib.hid (km.out.keep hb1); clear hb1)
      clear IS
      clear km
      go_wp2
      go_ret2
      exact ⟨⟨_, rfl, OwnI.nil _ _⟩, HB.out⟩
    by_cases p2 : i < n4
    case neg =>
      rw [plB_ge p0, decide_eq_false p2, show agE false = 1 from rfl, show nxA false FC i n4 = [] from rfl]
      have p1 : ¬ i < 0 := by omega
      have p3 : (n4 : Int) ≤ i := by omega
      go_enter Try.func13, Try.ntmps13
      go_upto_region 1 with fail
      have hbm := below_new1 w (.cells #[.slice pa1 n1 c1, .slice pa2 n2 c2, .slice pa3 n3 c3, .slice pa4 n4 c4] 26)
      have zm : (w.alloc (.cells #[.slice pa1 n1 c1, .slice pa2 n2 c2, .slice pa3 n3 c3, .slice pa4 n4 c4] 26)).heap.size = w.heap.size + 1 := by simp
      have HB := Lib.hid hbm
      have km := Lib.hid (Lok.new w 26 #[.slice pa1 n1 c1, .slice pa2 n2 c2, .slice pa3 n3 c3, .slice pa4 n4 c4])
      clear hbm
      generalize w.alloc (.cells #[.slice pa1 n1 c1, .slice pa2 n2 c2, .slice pa3 n3 c3, .slice pa4 n4 c4] 26) = Vm at *
      clear zm
      have m0 := km.out.cell (i := 0) rfl
      have m1 := km.out.cell (i := 1) rfl
      have m2 := km.out.cell (i := 2) rfl
      have m3 := km.out.cell (i := 3) rfl
      go_wp2_with fail
      clear m0 m1 m2 m3
      (((with_reducible refine (IS.out _ HB.out).mono ?_); rintro e w1 ⟨rfl, hb1⟩); replace HB := Lib.hid (HB.out.trans (hb1.mono HB.out.size)); replace km := Lib.hid (km.out.keep hb1); clear hb1)
      clear IS
      have m0 := km.out.cell (i := 0) rfl
      have m1 := km.out.cell (i := 1) rfl
      have m2 := km.out.cell (i := 2) rfl
      have m3 := km.out.cell (i := 3) rfl
      clear m0 m1 m2
      go_wp2
      go_ret2
      exact ⟨⟨_, rfl, OwnI.nil _ _⟩, HB.out⟩
    rw [plB_ge p0, decide_eq_true p2, show agE true = 0 from rfl, show nxA true FC i n4 = nxL FC i.toNat n4 from rfl]
    have p1 : ¬ i < 0 := by omega
    have p3 : ¬ (n4 : Int) ≤ i := by omega
    obtain ⟨j, rfl⟩ : ∃ j : Nat, i = (j : Int) := ⟨i.toNat, by omega⟩
    rw [show ((j : Int)).toNat = j from by omega]
    have hj : j < n4 := by omega
    have p4 : ¬ n4 ≤ j := by omega
    have NB := Lib.hid (fun W (h : Below w.heap.size w W) => neighbours_any pa1 pa2 pa3 pa4 n1 n2 n3 n4 c1 c2 c3 c4 FV FT FN FC W (M.out.keep h) hF (by omega))
    have CL := Lib.hid (fun W (h : Below w.heap.size w W) gm gk b base (q1 : MapG W base b (fun _ => False) (ownS FC n4)) q2 q3 => nbr_any pa1 pa2 pa3 pa4 n1 n2 n3 n4 c1 c2 c3 c4 FV FT FN FC j gm gk b base W (M.out.keep h) hj hF (by omega) q1 q2 q3)
    clear M hF
    go_enter Try.func13, Try.ntmps13
    go_upto_region 1 with fail
    have hbm := below_new1 w (.cells #[.slice pa1 n1 c1, .slice pa2 n2 c2, .slice pa3 n3 c3, .slice pa4 n4 c4] 26)
    have zm : (w.alloc (.cells #[.slice pa1 n1 c1, .slice pa2 n2 c2, .slice pa3 n3 c3, .slice pa4 n4 c4] 26)).heap.size = w.heap.size + 1 := by simp
    have HB := Lib.hid hbm
    have km := Lib.hid (Lok.new w 26 #[.slice pa1 n1 c1, .slice pa2 n2 c2, .slice pa3 n3 c3, .slice pa4 n4 c4])
    clear hbm
    generalize w.alloc (.cells #[.slice pa1 n1 c1, .slice pa2 n2 c2, .slice pa3 n3 c3, .slice pa4 n4 c4] 26) = Vm at *
    clear zm
    have m0 := km.out.cell (i := 0) rfl
    have m1 := km.out.cell (i := 1) rfl
    have m2 := km.out.cell (i := 2) rfl
    have m3 := km.out.cell (i := 3) rfl
    go_wp2_with fail
    clear m0 m1 m2 m3
    (((with_reducible refine (IS.out _ HB.out).mono ?_); rintro e w1 ⟨rfl, hb1⟩); replace HB := Lib.hid (HB.out.trans (hb1.mono HB.out.size)); replace km := Lib.hid (km.out.keep hb1); clear hb1)
    clear IS
    have m0 := km.out.cell (i := 0) rfl
    have m1 := km.out.cell (i := 1) rfl
    have m2 := km.out.cell (i := 2) rfl
    have m3 := km.out.cell (i := 3) rfl
    go_wp2_with fail
    ((with_reducible refine (NB.out _ HB.out).mono ?_); rintro e w5 ⟨⟨gm, gk, b, base, rfl, -, q1, q2, q3⟩, hb5⟩)
    clear m0 m1 m2 m3 NB p1 p3 p0 p2 p4 km
    have hw1 : w.heap.size ≤ w1.heap.size := HB.out.size
    replace HB := Lib.hid (HB.out.trans (hb5.mono HB.out.size))
    have CC := Lib.hid (CL.out w5 HB.out gm gk b base q1 q2 q3)
    have hw5 : w.heap.size ≤ w5.heap.size := HB.out.size
    clear q1 q2 q3 CL hb5
    unfold nbV
    go_wp2_with fail
    ((with_reducible refine CC.out.mono ?_); rintro e w6 ⟨⟨v, rfl, hO⟩, hb6⟩)
    replace HB := Lib.hid (HB.out.trans (hb6.mono HB.out.size))
    have OV := Lib.hid (ownI_mono hO hw5)
    clear hO hb6 CC
    go_wp2
    go_ret2
    exact ⟨⟨_, rfl, OV.out⟩, HB.out⟩
end Go.Proofs.Ytkheomaihhcokaa
