/-
  The law EdgeThree. (gen/EgY.py)
-/
import Derived.Test.YtkheomaihhcokaaEgV
import Derived.Test.YtkheomaihhcokaaEgS
import Derived.Test.YtkheomaihhcokaaEcV
import Derived.BigQuiet
import Derived.Deep.CutRange
namespace Go.Proofs.Ytkheomaihhcokaa
open Go.RowKit

theorem rise_e {L : List (Int × Int × List Int)} (h : L.Pairwise eLt) {i j : Nat} {e f : Int × Int × List Int} (he : L[i]? = some e) (hf : L[j]? = some f) (hij : i < j) : eLt e f := by
  obtain ⟨hi, rfl⟩ := List.getElem?_eq_some_iff.1 he
  obtain ⟨hj, rfl⟩ := List.getElem?_eq_some_iff.1 hf
  exact List.pairwise_iff_getElem.1 h i j hi hj hij
theorem cn_yes {L : List (Int × Int × List Int)} {p : Int × Int × List Int → Bool} {k : Nat} {e : Int × Int × List Int} (h : L[k]? = some e) (q : p e = true) : (L.take (k + 1)).countP p = (L.take k).countP p + 1 := by
  rw [List.take_add_one, h, List.countP_append]
  simp [q]
theorem cn_no {L : List (Int × Int × List Int)} {p : Int × Int × List Int → Bool} {k : Nat} {e : Int × Int × List Int} (h : L[k]? = some e) (q : p e = false) : (L.take (k + 1)).countP p = (L.take k).countP p := by
  rw [List.take_add_one, h, List.countP_append]
  simp [q]
theorem cn_len {L : List (Int × Int × List Int)} {p : Int × Int × List Int → Bool} (k : Nat) : (L.take k).countP p ≤ k := Nat.le_trans List.countP_le_length (by rw [List.length_take]; omega)
/-- An edge in a block of its own, empty and filled. -/
def EbZ (B : Nat) (W : World) (u : Value) : Prop := ∃ b, u = .pointer (some ⟨b, 0, none⟩) ∧ Lok W b 39 #[.int .i64 0, .int .i64 0, .slice none 0 0] ∧ B ≤ b
theorem EbZ.keep {B : Nat} {W W' : World} {u : Value} (h : EbZ B W u) (hb : Below W.heap.size W W') : EbZ B W' u := by
  obtain ⟨b, e, k, l⟩ := h; exact ⟨b, e, k.keep hb, l⟩
def EbK (B : Nat) (x y : Int) (l : List Int) (W : World) (u : Value) : Prop := ∃ b v, u = .pointer (some ⟨b, 0, none⟩) ∧ Lok W b 39 #[.int .i64 x, .int .i64 y, v] ∧ OwnI W B v l
theorem EbK.keep {B : Nat} {x y : Int} {l : List Int} {W W' : World} {u : Value} (h : EbK B x y l W u) (hb : Below W.heap.size W W') : EbK B x y l W' u := by
  obtain ⟨b, v, e, k, o⟩ := h; exact ⟨b, v, e, k.keep hb, o.keep hb⟩
/-- What Find answers: the edge and true; the edge. -/
def EtU (B : Nat) (x y : Int) (l : List Int) (W : World) (u : Value) : Prop := ∃ v, u = .tuple #[.agg #[.int .i64 x, .int .i64 y, v], .bool true] ∧ OwnI W B v l
theorem EtU.keep {B : Nat} {x y : Int} {l : List Int} {W W' : World} {u : Value} (h : EtU B x y l W u) (hb : Below W.heap.size W W') : EtU B x y l W' u := by
  obtain ⟨v, e, o⟩ := h; exact ⟨v, e, o.keep hb⟩
def EtB (x y : Int) (_ : World) (u v : Value) : Prop := u = v ∧ ∃ z, v = .tuple #[.agg #[.int .i64 x, .int .i64 y, z], .bool true]
theorem EtB.keep {n : Nat} {x y : Int} {W W' : World} {u v : Value} (h : EtB x y W u v) (_ : Below n W W') : EtB x y W' u v := h
def EvU (B : Nat) (x y : Int) (l : List Int) (W : World) (u : Value) : Prop := ∃ v, u = .agg #[.int .i64 x, .int .i64 y, v] ∧ OwnI W B v l
theorem EvU.keep {B : Nat} {x y : Int} {l : List Int} {W W' : World} {u : Value} (h : EvU B x y l W u) (hb : Below W.heap.size W W') : EvU B x y l W' u := by
  obtain ⟨v, e, o⟩ := h; exact ⟨v, e, o.keep hb⟩
theorem ownI_far {W : World} {B b i : Nat} {v x : Value} {l : List Int} {cs : Array Value} (h : OwnI W B v l) (k : Lok W b 39 cs) : OwnI (W.setCell ⟨b, i, none⟩ x) B v l := by
  obtain ⟨h1, h2 | ⟨g, cap, cur, hv, hg, hh, hrest⟩⟩ := h
  · exact ⟨h1, .inl h2⟩
  · have ne : ¬ b = g := lok_apart k hh (by decide)
    exact ⟨h1, .inr ⟨g, cap, cur, hv, hg, (Below.heap_setCell W ⟨b, i, none⟩ x g (fun e => ne e.symm)).trans hh, hrest⟩⟩
set_option maxRecDepth 100000 in
set_option maxHeartbeats 32000000 in
theorem law_three (pa1 pa2 pa3 pa4 : Option Addr) (n1 n2 n3 n4 c1 c2 c3 c4 : Nat) (FV FT FN FC : Nat → Nat → Int) (w : World) (hm : RowK w pa1 n1 3 FV ∧ RowK w pa2 n2 2 FT ∧ RowK w pa3 n3 3 FN ∧ RowK w pa4 n4 9 FC) :
    Calls Try.prog 5 #[.agg #[.slice pa1 n1 c1, .slice pa2 n2 c2, .slice pa3 n3 c3, .slice pa4 n4 c4]] w fun e w' => e = .returned (.bool true) ∧ Below w.heap.size w w' := by
  have HB := Lib.hid (Below.refl w.heap.size w)
  have FW := Lib.hid (fun W => rfew_any pa1 pa2 pa3 pa4 n1 n2 n3 n4 c1 c2 c3 c4 W)
  have ED := Lib.hid (edged_any edge_ok)
  cases hf : fwB n1 n2 n3 n4 with
  | false =>
    rw [hf] at FW
    go_enter Try.func5, Try.ntmps5
    go_upto_region 1 with fail
    have hbm := below_new1 w (.cells #[.slice pa1 n1 c1, .slice pa2 n2 c2, .slice pa3 n3 c3, .slice pa4 n4 c4] 26)
    have zm : (w.alloc (.cells #[.slice pa1 n1 c1, .slice pa2 n2 c2, .slice pa3 n3 c3, .slice pa4 n4 c4] 26)).heap.size = w.heap.size + 1 := by simp
    have HB := Lib.hid hbm
    have km := Lib.hid (Lok.new w 26 #[.slice pa1 n1 c1, .slice pa2 n2 c2, .slice pa3 n3 c3, .slice pa4 n4 c4])
    clear hbm
    generalize w.alloc (.cells #[.slice pa1 n1 c1, .slice pa2 n2 c2, .slice pa3 n3 c3, .slice pa4 n4 c4] 26) = Vm at *
    clear zm
    have m0 := km.out.cell (i := 0) rfl
    have m1 := km.out.cell (i := 1) rfl
    have m2 := km.out.cell (i := 2) rfl
    have m3 := km.out.cell (i := 3) rfl
    go_wp2_with fail
    clear m0 m1 m2 m3
    (((with_reducible refine (FW.out _).mono ?_); rintro e w1 ⟨rfl, hb1⟩); replace HB := Lib.hid (HB.out.trans (hb1.mono HB.out.size)); replace km := Lib.hid (km.out.keep hb1); clear hb1)
    clear km
    go_wp2
    go_ret
    exact ⟨rfl, HB.out⟩
  | true =>
    have q := fw_yes hf
    rw [hf] at FW
    have M := Lib.hid (show MsW w pa1 pa2 pa3 pa4 n1 n2 n3 n4 FV FT FN FC from ⟨hm, by omega, by omega, by omega, by omega⟩)
    have IS := Lib.hid (fun W (h : Below w.heap.size w W) => mis_any pa1 pa2 pa3 pa4 n1 n2 n3 n4 c1 c2 c3 c4 FV FT FN FC W (M.out.keep h))
    have EG := Lib.hid (fun W (h : Below w.heap.size w W) => edgesE_any pa1 pa2 pa3 pa4 n1 n2 n3 n4 c1 c2 c3 c4 FV FT FN FC W (M.out.keep h) q.1)
    clear hf hm
    cases hr : msB n1 n2 n3 n4 FV FT FN FC with
    | false =>
      rw [hr] at IS EG
      rw [show agE false = 1 from rfl, show egA false FC n4 n1 = [] from rfl] at EG
      clear hr
      go_enter Try.func5, Try.ntmps5
      go_upto_region 1 with fail
      have hbm := below_new1 w (.cells #[.slice pa1 n1 c1, .slice pa2 n2 c2, .slice pa3 n3 c3, .slice pa4 n4 c4] 26)
      have zm : (w.alloc (.cells #[.slice pa1 n1 c1, .slice pa2 n2 c2, .slice pa3 n3 c3, .slice pa4 n4 c4] 26)).heap.size = w.heap.size + 1 := by simp
      have HB := Lib.hid hbm
      have km := Lib.hid (Lok.new w 26 #[.slice pa1 n1 c1, .slice pa2 n2 c2, .slice pa3 n3 c3, .slice pa4 n4 c4])
      clear hbm
      generalize w.alloc (.cells #[.slice pa1 n1 c1, .slice pa2 n2 c2, .slice pa3 n3 c3, .slice pa4 n4 c4] 26) = Vm at *
      clear zm
      have m0 := km.out.cell (i := 0) rfl
      have m1 := km.out.cell (i := 1) rfl
      have m2 := km.out.cell (i := 2) rfl
      have m3 := km.out.cell (i := 3) rfl
      go_wp2_with fail
      clear m0 m1 m2 m3
      (((with_reducible refine (FW.out _).mono ?_); rintro e w1 ⟨rfl, hb1⟩); replace HB := Lib.hid (HB.out.trans (hb1.mono HB.out.size)); replace km := Lib.hid (km.out.keep hb1); clear hb1)
      have m0 := km.out.cell (i := 0) rfl
      have m1 := km.out.cell (i := 1) rfl
      have m2 := km.out.cell (i := 2) rfl
      have m3 := km.out.cell (i := 3) rfl
      go_wp2_with fail
      clear m0 m1 m2 m3
      ((with_reducible refine (EG.out _ HB.out).mono ?_); rintro e w2 ⟨⟨v2, Z2, rfl, O2, HZ2⟩, hb2⟩)
      obtain ⟨a2, d2, rfl, -, -, -, -⟩ := rowE_of_own O2
      obtain rfl : Z2 = [] := List.map_eq_nil_iff.1 HZ2
      clear O2 HZ2 EG FW
      replace HB := Lib.hid (HB.out.trans (hb2.mono HB.out.size))
      replace km := Lib.hid (km.out.keep hb2)
      clear hb2
      simp only [List.length_nil]
      go_wp2_with fail
      (((with_reducible refine (ED.out _).mono ?_); rintro e w3 ⟨rfl, hb3⟩); replace HB := Lib.hid (HB.out.trans (hb3.mono HB.out.size)); replace km := Lib.hid (km.out.keep hb3); clear hb3)
      have m0 := km.out.cell (i := 0) rfl
      have m1 := km.out.cell (i := 1) rfl
      have m2 := km.out.cell (i := 2) rfl
      have m3 := km.out.cell (i := 3) rfl
      go_wp2_with fail
      clear m0 m1 m2 m3
      (((with_reducible refine (IS.out _ HB.out).mono ?_); rintro e w4 ⟨rfl, hb4⟩); replace HB := Lib.hid (HB.out.trans (hb4.mono HB.out.size)); clear hb4)
      go_wp2
      go_ret
      exact ⟨rfl, HB.out⟩
    | true =>
      rw [hr] at EG
      rw [show agE true = 0 from rfl, show egA true FC n4 n1 = eaL FC n4 n1 n1 from rfl] at EG
      clear IS
      have RNG : Hid (∀ i, i < n4 → ∀ j, j = 0 ∨ j = 3 ∨ j = 6 → 0 ≤ FC i j ∧ FC i j < (n1 : Int)) := Lib.hid (fun i hi j hj => by
        unfold msB at hr
        rw [Bool.and_eq_true, Bool.and_eq_true, Bool.and_eq_true, Bool.and_eq_true] at hr
        have t := (allB_iff _ _).1 hr.2.2.2.2 i hi
        have t2 := fun k (hk : k < 3) => cnB_iff.1 ((allB_iff _ _).1 t k hk)
        rcases hj with rfl | rfl | rfl
        · exact (t2 0 (by omega)).1
        · exact (t2 1 (by omega)).1
        · exact (t2 2 (by omega)).1)
      have SHP : Hid (∀ e ∈ eaL FC n4 n1 n1, 0 ≤ e.1 ∧ e.1 < e.2.1 ∧ e.2.1 < (n1 : Int) ∧ 0 < e.2.2.length ∧ e.2.2.length ≤ 20) := Lib.hid (fun e he => by
        have s := ea_shape he
        obtain ⟨x, y, -, -, rfl, -⟩ := ea_iff.1 he
        exact ⟨s.1, s.2.1, s.2.2.1, s.2.2.2.1, Nat.le_trans (thL_len FC x y n4) (by omega)⟩)
      have FND : Hid (∀ e ∈ eaL FC n4 n1 n1, (eaL FC n4 n1 n1).find? (fdB e.2.1 e.1) = some e) := Lib.hid (fun e he => ea_find he)
      have RIS : Hid ((eaL FC n4 n1 n1).Pairwise eLt) := Lib.hid (ea_rise FC n4 n1 n1)
      have THR : Hid (∀ i, i < n4 → (eaL FC n4 n1 n1).countP (fun e => decide ((i : Int) ∈ e.2.2)) = teN (FC i 0) (FC i 3) (FC i 6)) := Lib.hid (fun i hi => ea_three hi (RNG.out i hi))
      have LEN : (eaL FC n4 n1 n1).length ≤ 400 := Nat.le_trans (eaL_len FC n4 n1 n1) (Nat.le_trans (Nat.mul_le_mul q.1 q.1) (by decide))
      clear RNG hr
      go_enter Try.func5, Try.ntmps5
      go_upto_region 1 with fail
      have hbm := below_new1 w (.cells #[.slice pa1 n1 c1, .slice pa2 n2 c2, .slice pa3 n3 c3, .slice pa4 n4 c4] 26)
      have zm : (w.alloc (.cells #[.slice pa1 n1 c1, .slice pa2 n2 c2, .slice pa3 n3 c3, .slice pa4 n4 c4] 26)).heap.size = w.heap.size + 1 := by simp
      have HB := Lib.hid hbm
      have km := Lib.hid (Lok.new w 26 #[.slice pa1 n1 c1, .slice pa2 n2 c2, .slice pa3 n3 c3, .slice pa4 n4 c4])
      clear hbm
      generalize w.alloc (.cells #[.slice pa1 n1 c1, .slice pa2 n2 c2, .slice pa3 n3 c3, .slice pa4 n4 c4] 26) = Vm at *
      clear zm
      have m0 := km.out.cell (i := 0) rfl
      have m1 := km.out.cell (i := 1) rfl
      have m2 := km.out.cell (i := 2) rfl
      have m3 := km.out.cell (i := 3) rfl
      go_wp2_with fail
      clear m0 m1 m2 m3
      (((with_reducible refine (FW.out _).mono ?_); rintro e w1 ⟨rfl, hb1⟩); replace HB := Lib.hid (HB.out.trans (hb1.mono HB.out.size)); replace km := Lib.hid (km.out.keep hb1); clear hb1)
      have m0 := km.out.cell (i := 0) rfl
      have m1 := km.out.cell (i := 1) rfl
      have m2 := km.out.cell (i := 2) rfl
      have m3 := km.out.cell (i := 3) rfl
      go_wp2_with fail
      clear m0 m1 m2 m3
      ((with_reducible refine (EG.out _ HB.out).mono ?_); rintro e w2 ⟨⟨v2, Z2, rfl, O2, HZ2⟩, hb2⟩)
      obtain ⟨a2, d2, rfl, -, lc2, mc2, R2⟩ := rowE_of_own O2
      rw [HZ2] at R2
      generalize eaL FC n4 n1 n1 = L at *
      have hkl := R2.1
      clear O2 HZ2 EG FW
      generalize Z2.length = k at *
      rw [hkl] at LEN
      replace R2 := Lib.hid R2
      replace HB := Lib.hid (HB.out.trans (hb2.mono HB.out.size))
      replace km := Lib.hid (km.out.keep hb2)
      have B2 := Lib.hid (Below.refl w2.heap.size w2)
      clear hb2
      have HB0 := HB
      have km0 := km
      clear HB km
      have FD : Hid (∀ W (h : Below w2.heap.size w2 W) (x y : Int) (l : List Int) (he : (x, y, l) ∈ L), Calls Try.prog 18 #[.slice a2 k d2, .int .i64 y, .int .i64 x] W fun e w' => (∃ v, e = .returned (.tuple #[.agg #[.int .i64 x, .int .i64 y, v], .bool true]) ∧ OwnI w' W.heap.size v l) ∧ Below W.heap.size W w') := Lib.hid (fun W h x y l he => by
        have z := find_any a2 k d2 L y x W (R2.out.keep h) (by omega) (fun e he => by have := (SHP.out e he).2.2.2.2; omega)
        rw [FND.out (x, y, l) he] at z
        exact z)
      clear FND
      go_wp2_with fail
      go_loopw [5] (fun x wr => ∃ i : Nat, x = .int .i64 i ∧ i ≤ k ∧ Below w2.heap.size w2 wr) (fun x _ => k - (intOf x).toNat)
      case atStart => exact ⟨0, rfl, Nat.zero_le _, B2.out⟩
      case round =>
        clear B2
        obtain ⟨i, rfl, hi, hB⟩ := hrel
        have HB := Lib.hid (HB0.out.trans (hB.mono HB0.out.size))
        have km := Lib.hid (km0.out.keep hB)
        have B2 := Lib.hid hB
        clear hB
        by_cases hlt : i < k
        · have i0 : (0 : Int) ≤ (i : Int) := by omega
          have i1 : (i : Int) < (k : Int) := by omega
          have i2 : ((i : Int)).toNat = i := by omega
          obtain ⟨b, o, t, m, ct, x, y, l, e2, hb, hL, hx, hy, hz, hr, htn, hmc, hcm⟩ := (R2.out.keep B2.out).at hlt
          have R2b := R2
          have R2k := Lib.hid (R2.out.keep B2.out)
          subst e2
          obtain ⟨s1, s2, s3, s4, s5⟩ := SHP.out _ (List.mem_of_getElem? hL)
          have MEM := Lib.hid (List.mem_of_getElem? hL)
          dsimp only at s1 s2 s3 s4 s5
          rw [hr.1] at s4 s5
          have HL := Lib.hid hL
          have HR := Lib.hid hr
          have x1 : ¬ y ≤ x := by omega
          have x2 : ¬ x < 0 := by omega
          have x3 : ¬ (n1 : Int) ≤ y := by omega
          have x4 : ((m : Int) == 0) = false := by rw [beq_eq_false_iff_ne]; omega
          have x5 : ¬ (m : Int) = 0 := by omega
          have x6 : ¬ m = 0 := by omega
          rw [← Nat.add_assoc] at hy hz
          clear hL hr htn hcm s4
          have m0 := km.out.cell (i := 0) rfl
          go_upto_region 9 with fail
          go_cut [125] from 41 to 125 (fun c wx => c = .bool false ∧ ∃ v : World, v = wx ∧ Below wr.heap.size wr v)
          case first =>
            clear ED M FD THR HB0 km0 HB km B2 HR MEM SHP
            rcases Nat.eq_zero_or_pos i with hi0 | hi0
            · have z1 : ¬ (0 : Int) < (i : Int) := by omega
              have z2 : ¬ 0 < i := by omega
              clear hi0 R2b R2k RIS HL
              as_aux_lemma =>
                simp only [List.append_eq, List.cons_append, List.nil_append]
                go_quiet (fail)
                first | (go_wp2_with fail; go_meet) | go_meet
                case rel => exact ⟨rfl, _, rfl, below_drewN (Below.refl _ _) _⟩
            · obtain ⟨i', hi'⟩ : ∃ i', i = i' + 1 := ⟨i - 1, by omega⟩
              obtain ⟨b', o', t', m', ct', x', y', l', e2', hb', hL', hx', hy', hz', hr', htn', hmc', hcm'⟩ := R2k.out.at (i := i') (by omega)
              cases e2'
              have RS := rise_e RIS.out hL' HL.out (by omega)
              have z1 : (0 : Int) < (i : Int) := by omega
              have z2 : 0 < i := hi0
              have z4 : (0 : Int) ≤ (i : Int) - 1 := by omega
              have z5 : (i : Int) - 1 < (k : Int) := by omega
              have z6 : ((i : Int) - 1).toNat = i' := by omega
              have z7 : (1 : Int) ≤ (i : Int) := by omega
              have z8 : 1 ≤ i := hi0
              rw [← Nat.add_assoc] at hy'
              clear hi0 hi' hL' hz' hr' htn' hmc' hcm' hb' R2b R2k RIS HL
              rcases RS with q1 | ⟨q1, q2⟩
              · dsimp only at q1
                have q3 : ¬ x < x' := by omega
                have q4 : (x' == x) = false := by rw [beq_eq_false_iff_ne]; omega
                have q5 : ¬ x' = x := by omega
                as_aux_lemma =>
                  simp only [List.append_eq, List.cons_append, List.nil_append]
                  go_quiet (fail)
                  first | (go_wp2_with fail; go_meet) | go_meet
                  case rel => exact ⟨rfl, _, rfl, below_drewN (Below.refl _ _) _⟩
              · dsimp only at q1 q2
                subst q1
                have q3 : ¬ x' < x' := by omega
                have q4 : (x' == x') = true := by simp
                have q5 : ¬ y ≤ y' := by omega
                as_aux_lemma =>
                  simp only [List.append_eq, List.cons_append, List.nil_append]
                  go_quiet (fail)
                  first | (go_wp2_with fail; go_meet) | go_meet
                  case rel => exact ⟨rfl, _, rfl, below_drewN (Below.refl _ _) _⟩
          case rest =>
            obtain ⟨rfl, wq, rfl, hbq⟩ := hcut
            as_aux_lemma =>
              go_upto_region 11 with fail
              have sx := Lib.hid (keepc hbq hx)
              have sy := Lib.hid (keepc hbq hy)
              have sz := Lib.hid (keepc hbq hz)
              have BQ := Lib.hid (B2.out.trans (hbq.mono B2.out.size))
              have RQ0 := Lib.hid (HR.out.keep hbq)
              clear hbq hx hy hz m0 km HB x1 x2 x3 x4 x5 x6 s1 s2 s3 HR B2 R2b R2k
              refine wp_region_rel2 (by kernel_rfl) [126, 127, 128, 129, 130, 131, 132, 133, 134, 135, 136, 137, 138, 139, 140, 6, 7] ?Fr2 ?hFr2
                (fun L u W => Below wq.heap.size wq W ∧ (L 0 = true → u 127 = .slice (some ⟨b, o, none⟩) k d2) ∧ (L 1 = true → u 128 = .slice (some ⟨b, o, none⟩) k d2) ∧ (L 2 = true → u 129 = .int .i64 (i : Int)) ∧ (L 3 = true → u 130 = .pointer (some ⟨b, o + i * 3, none⟩)) ∧ (L 4 = true → u 131 = .pointer (some ⟨b, o + i * 3 + 1, none⟩)) ∧ (L 5 = true → u 132 = .int .i64 y) ∧ (L 6 = true → u 133 = .slice (some ⟨b, o, none⟩) k d2) ∧ (L 7 = true → u 134 = .int .i64 (i : Int)) ∧ (L 8 = true → u 135 = .pointer (some ⟨b, o + i * 3, none⟩)) ∧ (L 9 = true → u 136 = .pointer (some ⟨b, o + i * 3, none⟩)) ∧ (L 10 = true → u 137 = .int .i64 x) ∧ (L 11 = true → L 13 = false → EtU wq.heap.size x y l W (u 138)) ∧ (L 12 = true → EtB x y W (u 126) (u 138)) ∧ (L 13 = true → L 16 = false → EvU wq.heap.size x y l W (u 139)) ∧ (L 14 = true → u 140 = .bool true) ∧ (L 15 = true → L 16 = false → EbZ wq.heap.size W (u 6)) ∧ (L 16 = true → EbK wq.heap.size x y l W (u 6)) ∧ (L 17 = true → u 7 = .bool true) ∧ (L 13 = false → True) ∧ (L 13 = true → L 12 = true) ∧ (L 12 = false → True) ∧ (L 12 = true → L 11 = true) ∧ (L 16 = true → L 15 = true)) (by kernel_rfl) (by kernel_rfl) 18 rfl ?h0r2 ?stepr2 ?finr2
              case hFr2 => intro u; simp only [putAll, Act.put, List.setIfInBounds_toArray, List.set]; exact rfl
              case h0r2 => intro L hL; exact ⟨(Below.refl _ _).drew, (fun h => by simp [hL] at h), (fun h => by simp [hL] at h), (fun h => by simp [hL] at h), (fun h => by simp [hL] at h), (fun h => by simp [hL] at h), (fun h => by simp [hL] at h), (fun h => by simp [hL] at h), (fun h => by simp [hL] at h), (fun h => by simp [hL] at h), (fun h => by simp [hL] at h), (fun h => by simp [hL] at h), (fun h => by simp [hL] at h), (fun h => by simp [hL] at h), (fun h => by simp [hL] at h), (fun h => by simp [hL] at h), (fun h => by simp [hL] at h), (fun h => by simp [hL] at h), (fun h => by simp [hL] at h), (fun _ => by first | rfl | trivial), (fun h => by simp [hL] at h), (fun _ => by first | rfl | trivial), (fun h => by simp [hL] at h), (fun h => by simp [hL] at h)⟩
              case stepr2 =>
                refine ops_all (ops_cons ?s0r2 (ops_cons ?s1r2 (ops_cons ?s2r2 (ops_cons ?s3r2 (ops_cons ?s4r2 (ops_cons ?s5r2 (ops_cons ?s6r2 (ops_cons ?s7r2 (ops_cons ?s8r2 (ops_cons ?s9r2 (ops_cons ?s10r2 (ops_cons ?s11r2 (ops_cons ?s12r2 (ops_cons ?s13r2 (ops_cons ?s14r2 (ops_cons ?s15r2 (ops_cons ?s16r2 (ops_cons ?s17r2 (ops_nil)))))))))))))))))))
                case s0r2 =>
                  rintro L u W ⟨hB, c0, c1, c2, c3, c4, c5, c6, c7, c8, c9, c10, c11, c12, c13, c14, c15, c16, c17, ini0, id0, ini1, id1, dk16⟩ hf hd K hK
                  dsimp only at hK
                  clear hd
                  go_simp
                  refine hK _ _ ?_ (fun h => by cases h)
                  intro s hs
                  cases hs
                  exact ⟨hB, (fun _ => rfl), c1, c2, c3, c4, c5, c6, c7, c8, c9, c10, c11, c12, c13, c14, c15, c16, c17, ini0, id0, ini1, id1, dk16⟩
                case s1r2 =>
                  rintro L u W ⟨hB, c0, c1, c2, c3, c4, c5, c6, c7, c8, c9, c10, c11, c12, c13, c14, c15, c16, c17, ini0, id0, ini1, id1, dk16⟩ hf hd K hK
                  dsimp only at hK
                  clear hd
                  go_simp
                  refine hK _ _ ?_ (fun h => by cases h)
                  intro s hs
                  cases hs
                  exact ⟨hB, c0, (fun _ => rfl), c2, c3, c4, c5, c6, c7, c8, c9, c10, c11, c12, c13, c14, c15, c16, c17, ini0, id0, ini1, id1, dk16⟩
                case s2r2 =>
                  rintro L u W ⟨hB, c0, c1, c2, c3, c4, c5, c6, c7, c8, c9, c10, c11, c12, c13, c14, c15, c16, c17, ini0, id0, ini1, id1, dk16⟩ hf hd K hK
                  dsimp only at hK
                  clear hd
                  go_simp
                  refine hK _ _ ?_ (fun h => by cases h)
                  intro s hs
                  cases hs
                  exact ⟨hB, c0, c1, (fun _ => rfl), c3, c4, c5, c6, c7, c8, c9, c10, c11, c12, c13, c14, c15, c16, c17, ini0, id0, ini1, id1, dk16⟩
                case s3r2 =>
                  rintro L u W ⟨hB, c0, c1, c2, c3, c4, c5, c6, c7, c8, c9, c10, c11, c12, c13, c14, c15, c16, c17, ini0, id0, ini1, id1, dk16⟩ hf hd K hK
                  dsimp only at hK
                  have hd1 : L 1 = true := (by first | (refine hd ⟨1, .data⟩ ?_ rfl; simp; done) | (refine hd ⟨1, .guard⟩ ?_ rfl; simp; done) | (refine hd ⟨1, .phase⟩ ?_ rfl; simp; done) | (refine hd ⟨1, .chain⟩ ?_ rfl; simp; done))
                  have hd2 : L 2 = true := (by first | (refine hd ⟨2, .data⟩ ?_ rfl; simp; done) | (refine hd ⟨2, .guard⟩ ?_ rfl; simp; done) | (refine hd ⟨2, .phase⟩ ?_ rfl; simp; done) | (refine hd ⟨2, .chain⟩ ?_ rfl; simp; done))
                  have e1 := c1 hd1
                  rw [e1] at hK
                  have e2 := c2 hd2
                  rw [e2] at hK
                  clear hd1
                  clear hd2
                  clear hd
                  go_simp
                  refine hK _ _ ?_ (fun h => by cases h)
                  intro s hs
                  cases hs
                  exact ⟨hB, c0, c1, c2, (fun _ => rfl), c4, c5, c6, c7, c8, c9, c10, c11, c12, c13, c14, c15, c16, c17, ini0, id0, ini1, id1, dk16⟩
                case s4r2 =>
                  rintro L u W ⟨hB, c0, c1, c2, c3, c4, c5, c6, c7, c8, c9, c10, c11, c12, c13, c14, c15, c16, c17, ini0, id0, ini1, id1, dk16⟩ hf hd K hK
                  dsimp only at hK
                  have hd3 : L 3 = true := (by first | (refine hd ⟨3, .data⟩ ?_ rfl; simp; done) | (refine hd ⟨3, .guard⟩ ?_ rfl; simp; done) | (refine hd ⟨3, .phase⟩ ?_ rfl; simp; done) | (refine hd ⟨3, .chain⟩ ?_ rfl; simp; done))
                  have e3 := c3 hd3
                  rw [e3] at hK
                  clear hd3
                  clear hd
                  go_simp
                  refine hK _ _ ?_ (fun h => by cases h)
                  intro s hs
                  cases hs
                  exact ⟨hB, c0, c1, c2, c3, (fun _ => rfl), c5, c6, c7, c8, c9, c10, c11, c12, c13, c14, c15, c16, c17, ini0, id0, ini1, id1, dk16⟩
                case s5r2 =>
                  rintro L u W ⟨hB, c0, c1, c2, c3, c4, c5, c6, c7, c8, c9, c10, c11, c12, c13, c14, c15, c16, c17, ini0, id0, ini1, id1, dk16⟩ hf hd K hK
                  dsimp only at hK
                  have hd4 : L 4 = true := (by first | (refine hd ⟨4, .data⟩ ?_ rfl; simp; done) | (refine hd ⟨4, .guard⟩ ?_ rfl; simp; done) | (refine hd ⟨4, .phase⟩ ?_ rfl; simp; done) | (refine hd ⟨4, .chain⟩ ?_ rfl; simp; done))
                  have e4 := c4 hd4
                  rw [e4] at hK
                  have t0 := keepc hB sy.out
                  clear hd4
                  clear hd
                  go_simp
                  refine hK _ _ ?_ (fun h => by cases h)
                  intro s hs
                  cases hs
                  exact ⟨hB, c0, c1, c2, c3, c4, (fun _ => rfl), c6, c7, c8, c9, c10, c11, c12, c13, c14, c15, c16, c17, ini0, id0, ini1, id1, dk16⟩
                case s6r2 =>
                  rintro L u W ⟨hB, c0, c1, c2, c3, c4, c5, c6, c7, c8, c9, c10, c11, c12, c13, c14, c15, c16, c17, ini0, id0, ini1, id1, dk16⟩ hf hd K hK
                  dsimp only at hK
                  clear hd
                  go_simp
                  refine hK _ _ ?_ (fun h => by cases h)
                  intro s hs
                  cases hs
                  exact ⟨hB, c0, c1, c2, c3, c4, c5, (fun _ => rfl), c7, c8, c9, c10, c11, c12, c13, c14, c15, c16, c17, ini0, id0, ini1, id1, dk16⟩
                case s7r2 =>
                  rintro L u W ⟨hB, c0, c1, c2, c3, c4, c5, c6, c7, c8, c9, c10, c11, c12, c13, c14, c15, c16, c17, ini0, id0, ini1, id1, dk16⟩ hf hd K hK
                  dsimp only at hK
                  clear hd
                  go_simp
                  refine hK _ _ ?_ (fun h => by cases h)
                  intro s hs
                  cases hs
                  exact ⟨hB, c0, c1, c2, c3, c4, c5, c6, (fun _ => rfl), c8, c9, c10, c11, c12, c13, c14, c15, c16, c17, ini0, id0, ini1, id1, dk16⟩
                case s8r2 =>
                  rintro L u W ⟨hB, c0, c1, c2, c3, c4, c5, c6, c7, c8, c9, c10, c11, c12, c13, c14, c15, c16, c17, ini0, id0, ini1, id1, dk16⟩ hf hd K hK
                  dsimp only at hK
                  have hd6 : L 6 = true := (by first | (refine hd ⟨6, .data⟩ ?_ rfl; simp; done) | (refine hd ⟨6, .guard⟩ ?_ rfl; simp; done) | (refine hd ⟨6, .phase⟩ ?_ rfl; simp; done) | (refine hd ⟨6, .chain⟩ ?_ rfl; simp; done))
                  have hd7 : L 7 = true := (by first | (refine hd ⟨7, .data⟩ ?_ rfl; simp; done) | (refine hd ⟨7, .guard⟩ ?_ rfl; simp; done) | (refine hd ⟨7, .phase⟩ ?_ rfl; simp; done) | (refine hd ⟨7, .chain⟩ ?_ rfl; simp; done))
                  have e6 := c6 hd6
                  rw [e6] at hK
                  have e7 := c7 hd7
                  rw [e7] at hK
                  clear hd6
                  clear hd7
                  clear hd
                  go_simp
                  refine hK _ _ ?_ (fun h => by cases h)
                  intro s hs
                  cases hs
                  exact ⟨hB, c0, c1, c2, c3, c4, c5, c6, c7, (fun _ => rfl), c9, c10, c11, c12, c13, c14, c15, c16, c17, ini0, id0, ini1, id1, dk16⟩
                case s9r2 =>
                  rintro L u W ⟨hB, c0, c1, c2, c3, c4, c5, c6, c7, c8, c9, c10, c11, c12, c13, c14, c15, c16, c17, ini0, id0, ini1, id1, dk16⟩ hf hd K hK
                  dsimp only at hK
                  have hd8 : L 8 = true := (by first | (refine hd ⟨8, .data⟩ ?_ rfl; simp; done) | (refine hd ⟨8, .guard⟩ ?_ rfl; simp; done) | (refine hd ⟨8, .phase⟩ ?_ rfl; simp; done) | (refine hd ⟨8, .chain⟩ ?_ rfl; simp; done))
                  have e8 := c8 hd8
                  rw [e8] at hK
                  clear hd8
                  clear hd
                  go_simp
                  refine hK _ _ ?_ (fun h => by cases h)
                  intro s hs
                  cases hs
                  exact ⟨hB, c0, c1, c2, c3, c4, c5, c6, c7, c8, (fun _ => rfl), c10, c11, c12, c13, c14, c15, c16, c17, ini0, id0, ini1, id1, dk16⟩
                case s10r2 =>
                  rintro L u W ⟨hB, c0, c1, c2, c3, c4, c5, c6, c7, c8, c9, c10, c11, c12, c13, c14, c15, c16, c17, ini0, id0, ini1, id1, dk16⟩ hf hd K hK
                  dsimp only at hK
                  have hd9 : L 9 = true := (by first | (refine hd ⟨9, .data⟩ ?_ rfl; simp; done) | (refine hd ⟨9, .guard⟩ ?_ rfl; simp; done) | (refine hd ⟨9, .phase⟩ ?_ rfl; simp; done) | (refine hd ⟨9, .chain⟩ ?_ rfl; simp; done))
                  have e9 := c9 hd9
                  rw [e9] at hK
                  have t0 := keepc hB sx.out
                  clear hd9
                  clear hd
                  go_simp
                  refine hK _ _ ?_ (fun h => by cases h)
                  intro s hs
                  cases hs
                  exact ⟨hB, c0, c1, c2, c3, c4, c5, c6, c7, c8, c9, (fun _ => rfl), c11, c12, c13, c14, c15, c16, c17, ini0, id0, ini1, id1, dk16⟩
                case s11r2 =>
                  rintro L u W ⟨hB, c0, c1, c2, c3, c4, c5, c6, c7, c8, c9, c10, c11, c12, c13, c14, c15, c16, c17, ini0, id0, ini1, id1, dk16⟩ hf hd K hK
                  dsimp only at hK
                  have hd0 : L 0 = true := (by first | (refine hd ⟨0, .data⟩ ?_ rfl; simp; done) | (refine hd ⟨0, .guard⟩ ?_ rfl; simp; done) | (refine hd ⟨0, .phase⟩ ?_ rfl; simp; done) | (refine hd ⟨0, .chain⟩ ?_ rfl; simp; done))
                  have hd5 : L 5 = true := (by first | (refine hd ⟨5, .data⟩ ?_ rfl; simp; done) | (refine hd ⟨5, .guard⟩ ?_ rfl; simp; done) | (refine hd ⟨5, .phase⟩ ?_ rfl; simp; done) | (refine hd ⟨5, .chain⟩ ?_ rfl; simp; done))
                  have hd10 : L 10 = true := (by first | (refine hd ⟨10, .data⟩ ?_ rfl; simp; done) | (refine hd ⟨10, .guard⟩ ?_ rfl; simp; done) | (refine hd ⟨10, .phase⟩ ?_ rfl; simp; done) | (refine hd ⟨10, .chain⟩ ?_ rfl; simp; done))
                  have e0 := c0 hd0
                  rw [e0] at hK
                  have e5 := c5 hd5
                  rw [e5] at hK
                  have e10 := c10 hd10
                  rw [e10] at hK
                  clear hd0
                  clear hd5
                  clear hd10
                  clear hd
                  go_simp
                  go_wp2_with (go_at_call 18; ((with_reducible refine (FD.out _ (BQ.out.trans (hB.mono BQ.out.size)) x y l MEM.out).mono ?_); rintro e w5 ⟨⟨v9, rfl, q0⟩, hb⟩))
                  have q : EtU wq.heap.size x y l w5 (.tuple #[.agg #[.int .i64 x, .int .i64 y, v9], .bool true]) := ⟨_, rfl, ownI_mono q0 hB.size⟩
                  refine hK _ _ ?_ (fun h => by cases h)
                  intro s hs
                  cases hs
                  exact ⟨hB.trans (hb.mono hB.size), c0, c1, c2, c3, c4, c5, c6, c7, c8, c9, c10, (fun _ _ => q), (fun h => by have z := id1 h; rw [hf] at z; cases z), (fun h k => (c13 h k).keep hb), c14, (fun h k => (c15 h k).keep hb), (fun h => (c16 h).keep hb), c17, ini0, id0, ini1, (fun _ => rfl), dk16⟩
                case s12r2 =>
                  rintro L u W ⟨hB, c0, c1, c2, c3, c4, c5, c6, c7, c8, c9, c10, c11, c12, c13, c14, c15, c16, c17, ini0, id0, ini1, id1, dk16⟩ hf hd K hK
                  dsimp only at hK
                  have hdi1 : L 11 = true := (by first | (refine hd ⟨11, .data⟩ ?_ rfl; simp; done) | (refine hd ⟨11, .phase⟩ ?_ rfl; simp; done) | (refine hd ⟨11, .chain⟩ ?_ rfl; simp; done))
                  replace hdi1 := Lib.hid hdi1
                  have hd11 : L 11 = true := hd ⟨11, .data⟩ (by simp) rfl
                  have n13 : L 13 = false := by cases h : L 13 with | false => rfl | true => rw [id0 h] at hf; cases hf
                  obtain ⟨v, ev, -⟩ := c11 hd11 n13
                  rw [ev] at hK
                  have q : EtB x y W (.tuple #[.agg #[.int .i64 x, .int .i64 y, v], .bool true]) (u 138) := ⟨ev.symm, v, ev⟩
                  clear hd11
                  clear hd
                  go_simp
                  refine hK _ _ ?_ (fun h => by cases h)
                  intro s hs
                  cases hs
                  exact ⟨hB, c0, c1, c2, c3, c4, c5, c6, c7, c8, c9, c10, c11, (fun _ => q), c13, c14, c15, c16, c17, ini0, (fun _ => rfl), (fun h => by cases h), (fun _ => hdi1.out), dk16⟩
                case s13r2 =>
                  rintro L u W ⟨hB, c0, c1, c2, c3, c4, c5, c6, c7, c8, c9, c10, c11, c12, c13, c14, c15, c16, c17, ini0, id0, ini1, id1, dk16⟩ hf hd K hK
                  dsimp only at hK
                  have hdi0 : L 12 = true := (by first | (refine hd ⟨12, .data⟩ ?_ rfl; simp; done) | (refine hd ⟨12, .phase⟩ ?_ rfl; simp; done) | (refine hd ⟨12, .chain⟩ ?_ rfl; simp; done))
                  replace hdi0 := Lib.hid hdi0
                  have hd12 : L 12 = true := (by first | (refine hd ⟨12, .data⟩ ?_ rfl; simp; done) | (refine hd ⟨12, .guard⟩ ?_ rfl; simp; done) | (refine hd ⟨12, .phase⟩ ?_ rfl; simp; done) | (refine hd ⟨12, .chain⟩ ?_ rfl; simp; done))
                  have e12 := c12 hd12
                  obtain ⟨ee, -⟩ := e12
                  obtain ⟨v, ev, ov⟩ := c11 (id1 hd12) hf
                  rw [ee, ev] at hK
                  have q : EvU wq.heap.size x y l W (.agg #[.int .i64 x, .int .i64 y, v]) := ⟨_, rfl, ov⟩
                  clear hd12
                  clear hd
                  go_simp
                  refine hK _ _ ?_ (fun h => by cases h)
                  intro s hs
                  cases hs
                  exact ⟨hB, c0, c1, c2, c3, c4, c5, c6, c7, c8, c9, c10, (fun _ h => by cases h), c12, (fun _ _ => q), c14, c15, c16, c17, (fun h => by cases h), (fun _ => hdi0.out), ini1, id1, dk16⟩
                case s14r2 =>
                  rintro L u W ⟨hB, c0, c1, c2, c3, c4, c5, c6, c7, c8, c9, c10, c11, c12, c13, c14, c15, c16, c17, ini0, id0, ini1, id1, dk16⟩ hf hd K hK
                  dsimp only at hK
                  have hd12 : L 12 = true := (by first | (refine hd ⟨12, .data⟩ ?_ rfl; simp; done) | (refine hd ⟨12, .guard⟩ ?_ rfl; simp; done) | (refine hd ⟨12, .phase⟩ ?_ rfl; simp; done) | (refine hd ⟨12, .chain⟩ ?_ rfl; simp; done))
                  have e12 := c12 hd12
                  obtain ⟨ee, v, ev⟩ := e12
                  rw [ee, ev] at hK
                  clear hd12
                  clear hd
                  go_simp
                  refine hK _ _ ?_ (fun h => by cases h)
                  intro s hs
                  cases hs
                  exact ⟨hB, c0, c1, c2, c3, c4, c5, c6, c7, c8, c9, c10, c11, c12, c13, (fun _ => rfl), c15, c16, c17, ini0, id0, ini1, id1, dk16⟩
                case s15r2 =>
                  rintro L u W ⟨hB, c0, c1, c2, c3, c4, c5, c6, c7, c8, c9, c10, c11, c12, c13, c14, c15, c16, c17, ini0, id0, ini1, id1, dk16⟩ hf hd K hK
                  dsimp only at hK
                  clear hd
                  go_simp
                  have hb : Below W.heap.size W (W.alloc (.cells #[.int .i64 0, .int .i64 0, .slice none 0 0] 39)) := (Below.refl _ W).alloc (Nat.le_refl _) _
                  have q : EbZ wq.heap.size (W.alloc (.cells #[.int .i64 0, .int .i64 0, .slice none 0 0] 39)) (.pointer (some ⟨W.heap.size, 0, none⟩)) := ⟨_, rfl, Lok.new _ _ _, hB.size⟩
                  refine hK _ _ ?_ (fun h => by cases h)
                  intro s hs
                  cases hs
                  exact ⟨hB.trans (hb.mono hB.size), c0, c1, c2, c3, c4, c5, c6, c7, c8, c9, c10, (fun h k => (c11 h k).keep hb), (fun h => (c12 h).keep hb), (fun h k => (c13 h k).keep hb), c14, (fun _ _ => q), (fun h => by have z := dk16 h; rw [hf] at z; cases z), c17, ini0, id0, ini1, id1, (fun _ => rfl)⟩
                case s16r2 =>
                  rintro L u W ⟨hB, c0, c1, c2, c3, c4, c5, c6, c7, c8, c9, c10, c11, c12, c13, c14, c15, c16, c17, ini0, id0, ini1, id1, dk16⟩ hf hd K hK
                  dsimp only at hK
                  have hd13 : L 13 = true := (by first | (refine hd ⟨13, .data⟩ ?_ rfl; simp; done) | (refine hd ⟨13, .guard⟩ ?_ rfl; simp; done) | (refine hd ⟨13, .phase⟩ ?_ rfl; simp; done) | (refine hd ⟨13, .chain⟩ ?_ rfl; simp; done))
                  have hd15 : L 15 = true := (by first | (refine hd ⟨15, .data⟩ ?_ rfl; simp; done) | (refine hd ⟨15, .guard⟩ ?_ rfl; simp; done) | (refine hd ⟨15, .phase⟩ ?_ rfl; simp; done) | (refine hd ⟨15, .chain⟩ ?_ rfl; simp; done))
                  have e13 := c13 hd13 (by first | exact hf | assumption)
                  have e15 := c15 hd15 (by first | exact hf | assumption)
                  have hdk15 := Lib.hid hd15
                  have hdx13 := Lib.hid hd13
                  clear hd13
                  clear hd15
                  clear hd
                  obtain ⟨v, ev, ov⟩ := e13
                  obtain ⟨g, ev6, kg, hgB⟩ := e15
                  obtain ⟨aQ, cQ, rfl, -, -, -, -⟩ := rowI_of_own ov
                  rw [ev, ev6] at hK
                  have t0 := kg.cell (i := 0) rfl
                  have t1 := kg.cell (i := 1) rfl
                  have t2 := kg.cell (i := 2) rfl
                  have f0 := kg.frozen 0
                  have f1 := kg.frozen 1
                  have f2 := kg.frozen 2
                  replace kg := Lib.hid kg
                  replace ov := Lib.hid ov
                  go_simp
                  have hb : Below wq.heap.size W (((W.setCell ⟨g, 0, none⟩ (.int .i64 x)).setCell ⟨g, 1, none⟩ (.int .i64 y)).setCell ⟨g, 2, none⟩ (.slice aQ l.length cQ)) := (((Below.refl _ W).setCell (p := ⟨g, 0, none⟩) hgB _).setCell (p := ⟨g, 1, none⟩) hgB _).setCell (p := ⟨g, 2, none⟩) hgB _
                  have k1 := kg.out.set (i := 0) (v := .int .i64 x)
                  have k2 := k1.set (i := 1) (v := .int .i64 y)
                  have q : EbK wq.heap.size x y l (((W.setCell ⟨g, 0, none⟩ (.int .i64 x)).setCell ⟨g, 1, none⟩ (.int .i64 y)).setCell ⟨g, 2, none⟩ (.slice aQ l.length cQ)) (.pointer (some ⟨g, 0, none⟩)) := ⟨g, _, rfl, k2.set (i := 2) (v := .slice aQ l.length cQ), ownI_far (ownI_far (ownI_far ov.out kg.out) k1) k2⟩
                  refine hK undef _ (fun s h => by cases h) (fun _ => ?_)
                  exact ⟨hB.trans hb, c0, c1, c2, c3, c4, c5, c6, c7, c8, c9, c10, (fun _ h => by have z := hdx13.out; rw [show L 13 = false from h] at z; cases z), (fun h => (c12 h).keep hb), (fun _ h => by cases h), c14, (fun _ h => by cases h), (fun _ => q), c17, ini0, id0, ini1, id1, (fun _ => hdk15.out)⟩
                case s17r2 =>
                  rintro L u W ⟨hB, c0, c1, c2, c3, c4, c5, c6, c7, c8, c9, c10, c11, c12, c13, c14, c15, c16, c17, ini0, id0, ini1, id1, dk16⟩ hf hd K hK
                  dsimp only at hK
                  have hd14 : L 14 = true := (by first | (refine hd ⟨14, .data⟩ ?_ rfl; simp; done) | (refine hd ⟨14, .guard⟩ ?_ rfl; simp; done) | (refine hd ⟨14, .phase⟩ ?_ rfl; simp; done) | (refine hd ⟨14, .chain⟩ ?_ rfl; simp; done))
                  have e14 := c14 hd14
                  rw [e14] at hK
                  clear hd14
                  clear hd
                  go_simp
                  refine hK _ _ ?_ (fun h => by cases h)
                  intro s hs
                  cases hs
                  exact ⟨hB, c0, c1, c2, c3, c4, c5, c6, c7, c8, c9, c10, c11, c12, c13, c14, c15, c16, (fun _ => rfl), ini0, id0, ini1, id1, dk16⟩
              case finr2 =>
                rintro L u W hL ⟨hB, c0, c1, c2, c3, c4, c5, c6, c7, c8, c9, c10, c11, c12, c13, c14, c15, c16, c17, ini0, id0, ini1, id1, dk16⟩
                have e0 := c0 (hL 0 (by decide))
                have e1 := c1 (hL 1 (by decide))
                have e2 := c2 (hL 2 (by decide))
                have e3 := c3 (hL 3 (by decide))
                have e4 := c4 (hL 4 (by decide))
                have e5 := c5 (hL 5 (by decide))
                have e6 := c6 (hL 6 (by decide))
                have e7 := c7 (hL 7 (by decide))
                have e8 := c8 (hL 8 (by decide))
                have e9 := c9 (hL 9 (by decide))
                have e10 := c10 (hL 10 (by decide))
                have kq12 := c12 (hL 12 (by decide))
                have e14 := c14 (hL 14 (by decide))
                have kq16 := c16 (hL 16 (by decide))
                have e17 := c17 (hL 17 (by decide))
                clear hL c0 c1 c2 c3 c4 c5 c6 c7 c8 c9 c10 c11 c12 c13 c14 c15 c16 c17 ini0 id0 ini1 id1 dk16
                try simp only [e0, e1, e2, e3, e4, e5, e6, e7, e8, e9, e10, e14, e17]
                clear e0 e1 e2 e3 e4 e5 e6 e7 e8 e9 e10 e14 e17
                generalize u 6 = uB at *
                generalize u 126 = uC at *
                generalize u 138 = uD at *
                generalize u 139 = uE at *
                obtain ⟨g, v, rfl, kg, og⟩ := kq16
                obtain ⟨aQ, cQ, rfl, -, lQ, mQ, RQ⟩ := rowI_of_own og
                have kg0 := Lib.hid kg
                have SA := Lib.hid (fun W' (h : Below W.heap.size W W') => rsame_list aQ t l.length m cQ ct l l W' (RQ.keep h) ((RQ0.out.keep hB).keep h) (by omega) (by omega))
                have sz2 := Lib.hid (keepc hB sz.out)
                replace BQ := Lib.hid (BQ.out.trans (hB.mono BQ.out.size))
                clear kq12 kg og RQ RQ0 sx sy sz hB
                generalize W = wy at *
                go_upto_region 12 with fail
                refine wp_region_rel (by kernel_rfl) [141, 142, 143, 144, 145, 146, 147, 148, 149, 150, 151, 152, 153] ?Fr1 ?hFr1
                  (fun L u W => Below wy.heap.size wy W ∧ (L 0 = true → u 141 = .bool true) ∧ (L 1 = true → u 142 = .bool false) ∧ (L 2 = true → u 143 = .bool false) ∧ (L 3 = true → u 144 = .pointer (some ⟨g, 2, none⟩)) ∧ (L 4 = true → u 145 = .slice aQ l.length cQ) ∧ (L 5 = true → u 146 = .slice (some ⟨b, o, none⟩) k d2) ∧ (L 6 = true → u 147 = .int .i64 (i : Int)) ∧ (L 7 = true → u 148 = .pointer (some ⟨b, o + i * 3, none⟩)) ∧ (L 8 = true → u 149 = .pointer (some ⟨b, o + i * 3 + 2, none⟩)) ∧ (L 9 = true → u 150 = .slice t m ct) ∧ (L 10 = true → u 151 = .bool true) ∧ (L 11 = true → u 152 = .bool false) ∧ (L 12 = true → u 153 = .bool false)) (by kernel_rfl) (by kernel_rfl) 13 rfl ?h0r1 ?stepr1 ?finr1
                case hFr1 => intro u; simp only [putAll, Act.put, List.setIfInBounds_toArray, List.set]; exact rfl
                case h0r1 => intro L u hL; exact ⟨(Below.refl _ _).drew, (fun h => by simp [hL] at h), (fun h => by simp [hL] at h), (fun h => by simp [hL] at h), (fun h => by simp [hL] at h), (fun h => by simp [hL] at h), (fun h => by simp [hL] at h), (fun h => by simp [hL] at h), (fun h => by simp [hL] at h), (fun h => by simp [hL] at h), (fun h => by simp [hL] at h), (fun h => by simp [hL] at h), (fun h => by simp [hL] at h), (fun h => by simp [hL] at h)⟩
                case stepr1 =>
                  refine ops_all (ops_cons ?s0r1 (ops_cons ?s1r1 (ops_cons ?s2r1 (ops_cons ?s3r1 (ops_cons ?s4r1 (ops_cons ?s5r1 (ops_cons ?s6r1 (ops_cons ?s7r1 (ops_cons ?s8r1 (ops_cons ?s9r1 (ops_cons ?s10r1 (ops_cons ?s11r1 (ops_cons ?s12r1 (ops_nil))))))))))))))
                  case s0r1 =>
                    rintro L u W ⟨hB, c0, c1, c2, c3, c4, c5, c6, c7, c8, c9, c10, c11, c12⟩ hf hd K hK
                    dsimp only at hK
                    clear hd
                    go_simp
                    refine hK _ _ ?_ (fun h => by cases h)
                    intro s hs
                    cases hs
                    exact ⟨hB, (fun _ => rfl), c1, c2, c3, c4, c5, c6, c7, c8, c9, c10, c11, c12⟩
                  case s1r1 =>
                    rintro L u W ⟨hB, c0, c1, c2, c3, c4, c5, c6, c7, c8, c9, c10, c11, c12⟩ hf hd K hK
                    dsimp only at hK
                    have hd0 : L 0 = true := (by first | (refine hd ⟨0, .data⟩ ?_ rfl; simp; done) | (refine hd ⟨0, .guard⟩ ?_ rfl; simp; done) | (refine hd ⟨0, .phase⟩ ?_ rfl; simp; done) | (refine hd ⟨0, .chain⟩ ?_ rfl; simp; done))
                    have e0 := c0 hd0
                    rw [e0] at hK
                    clear hd0
                    clear hd
                    go_simp
                    refine hK _ _ ?_ (fun h => by cases h)
                    intro s hs
                    cases hs
                    exact ⟨hB, c0, (fun _ => rfl), c2, c3, c4, c5, c6, c7, c8, c9, c10, c11, c12⟩
                  case s2r1 =>
                    rintro L u W ⟨hB, c0, c1, c2, c3, c4, c5, c6, c7, c8, c9, c10, c11, c12⟩ hf hd K hK
                    dsimp only at hK
                    have hd1 : L 1 = true := (by first | (refine hd ⟨1, .data⟩ ?_ rfl; simp; done) | (refine hd ⟨1, .guard⟩ ?_ rfl; simp; done) | (refine hd ⟨1, .phase⟩ ?_ rfl; simp; done) | (refine hd ⟨1, .chain⟩ ?_ rfl; simp; done))
                    have e1 := c1 hd1
                    rw [e1] at hK
                    clear hd1
                    clear hd
                    go_simp
                    refine hK _ _ ?_ (fun h => by cases h)
                    intro s hs
                    cases hs
                    exact ⟨hB, c0, c1, (fun _ => rfl), c3, c4, c5, c6, c7, c8, c9, c10, c11, c12⟩
                  case s3r1 =>
                    rintro L u W ⟨hB, c0, c1, c2, c3, c4, c5, c6, c7, c8, c9, c10, c11, c12⟩ hf hd K hK
                    dsimp only at hK
                    have hd2 : L 2 = true := (by first | (refine hd ⟨2, .data⟩ ?_ rfl; simp; done) | (refine hd ⟨2, .guard⟩ ?_ rfl; simp; done) | (refine hd ⟨2, .phase⟩ ?_ rfl; simp; done) | (refine hd ⟨2, .chain⟩ ?_ rfl; simp; done))
                    have e2 := c2 hd2
                    rw [e2] at hK
                    clear hd2
                    clear hd
                    go_simp
                    refine hK _ _ ?_ (fun h => by cases h)
                    intro s hs
                    cases hs
                    exact ⟨hB, c0, c1, c2, (fun _ => rfl), c4, c5, c6, c7, c8, c9, c10, c11, c12⟩
                  case s4r1 =>
                    rintro L u W ⟨hB, c0, c1, c2, c3, c4, c5, c6, c7, c8, c9, c10, c11, c12⟩ hf hd K hK
                    dsimp only at hK
                    have hd2 : L 2 = true := (by first | (refine hd ⟨2, .data⟩ ?_ rfl; simp; done) | (refine hd ⟨2, .guard⟩ ?_ rfl; simp; done) | (refine hd ⟨2, .phase⟩ ?_ rfl; simp; done) | (refine hd ⟨2, .chain⟩ ?_ rfl; simp; done))
                    have hd3 : L 3 = true := (by first | (refine hd ⟨3, .data⟩ ?_ rfl; simp; done) | (refine hd ⟨3, .guard⟩ ?_ rfl; simp; done) | (refine hd ⟨3, .phase⟩ ?_ rfl; simp; done) | (refine hd ⟨3, .chain⟩ ?_ rfl; simp; done))
                    have e2 := c2 hd2
                    rw [e2] at hK
                    have e3 := c3 hd3
                    rw [e3] at hK
                    have t0 := (kg0.out.keep hB).cell (i := 2) rfl
                    clear hd2
                    clear hd3
                    clear hd
                    go_simp
                    refine hK _ _ ?_ (fun h => by cases h)
                    intro s hs
                    cases hs
                    exact ⟨hB, c0, c1, c2, c3, (fun _ => rfl), c5, c6, c7, c8, c9, c10, c11, c12⟩
                  case s5r1 =>
                    rintro L u W ⟨hB, c0, c1, c2, c3, c4, c5, c6, c7, c8, c9, c10, c11, c12⟩ hf hd K hK
                    dsimp only at hK
                    have hd2 : L 2 = true := (by first | (refine hd ⟨2, .data⟩ ?_ rfl; simp; done) | (refine hd ⟨2, .guard⟩ ?_ rfl; simp; done) | (refine hd ⟨2, .phase⟩ ?_ rfl; simp; done) | (refine hd ⟨2, .chain⟩ ?_ rfl; simp; done))
                    have e2 := c2 hd2
                    rw [e2] at hK
                    clear hd2
                    clear hd
                    go_simp
                    refine hK _ _ ?_ (fun h => by cases h)
                    intro s hs
                    cases hs
                    exact ⟨hB, c0, c1, c2, c3, c4, (fun _ => rfl), c6, c7, c8, c9, c10, c11, c12⟩
                  case s6r1 =>
                    rintro L u W ⟨hB, c0, c1, c2, c3, c4, c5, c6, c7, c8, c9, c10, c11, c12⟩ hf hd K hK
                    dsimp only at hK
                    have hd2 : L 2 = true := (by first | (refine hd ⟨2, .data⟩ ?_ rfl; simp; done) | (refine hd ⟨2, .guard⟩ ?_ rfl; simp; done) | (refine hd ⟨2, .phase⟩ ?_ rfl; simp; done) | (refine hd ⟨2, .chain⟩ ?_ rfl; simp; done))
                    have e2 := c2 hd2
                    rw [e2] at hK
                    clear hd2
                    clear hd
                    go_simp
                    refine hK _ _ ?_ (fun h => by cases h)
                    intro s hs
                    cases hs
                    exact ⟨hB, c0, c1, c2, c3, c4, c5, (fun _ => rfl), c7, c8, c9, c10, c11, c12⟩
                  case s7r1 =>
                    rintro L u W ⟨hB, c0, c1, c2, c3, c4, c5, c6, c7, c8, c9, c10, c11, c12⟩ hf hd K hK
                    dsimp only at hK
                    have hd2 : L 2 = true := (by first | (refine hd ⟨2, .data⟩ ?_ rfl; simp; done) | (refine hd ⟨2, .guard⟩ ?_ rfl; simp; done) | (refine hd ⟨2, .phase⟩ ?_ rfl; simp; done) | (refine hd ⟨2, .chain⟩ ?_ rfl; simp; done))
                    have hd5 : L 5 = true := (by first | (refine hd ⟨5, .data⟩ ?_ rfl; simp; done) | (refine hd ⟨5, .guard⟩ ?_ rfl; simp; done) | (refine hd ⟨5, .phase⟩ ?_ rfl; simp; done) | (refine hd ⟨5, .chain⟩ ?_ rfl; simp; done))
                    have hd6 : L 6 = true := (by first | (refine hd ⟨6, .data⟩ ?_ rfl; simp; done) | (refine hd ⟨6, .guard⟩ ?_ rfl; simp; done) | (refine hd ⟨6, .phase⟩ ?_ rfl; simp; done) | (refine hd ⟨6, .chain⟩ ?_ rfl; simp; done))
                    have e2 := c2 hd2
                    rw [e2] at hK
                    have e5 := c5 hd5
                    rw [e5] at hK
                    have e6 := c6 hd6
                    rw [e6] at hK
                    clear hd2
                    clear hd5
                    clear hd6
                    clear hd
                    go_simp
                    refine hK _ _ ?_ (fun h => by cases h)
                    intro s hs
                    cases hs
                    exact ⟨hB, c0, c1, c2, c3, c4, c5, c6, (fun _ => rfl), c8, c9, c10, c11, c12⟩
                  case s8r1 =>
                    rintro L u W ⟨hB, c0, c1, c2, c3, c4, c5, c6, c7, c8, c9, c10, c11, c12⟩ hf hd K hK
                    dsimp only at hK
                    have hd2 : L 2 = true := (by first | (refine hd ⟨2, .data⟩ ?_ rfl; simp; done) | (refine hd ⟨2, .guard⟩ ?_ rfl; simp; done) | (refine hd ⟨2, .phase⟩ ?_ rfl; simp; done) | (refine hd ⟨2, .chain⟩ ?_ rfl; simp; done))
                    have hd7 : L 7 = true := (by first | (refine hd ⟨7, .data⟩ ?_ rfl; simp; done) | (refine hd ⟨7, .guard⟩ ?_ rfl; simp; done) | (refine hd ⟨7, .phase⟩ ?_ rfl; simp; done) | (refine hd ⟨7, .chain⟩ ?_ rfl; simp; done))
                    have e2 := c2 hd2
                    rw [e2] at hK
                    have e7 := c7 hd7
                    rw [e7] at hK
                    clear hd2
                    clear hd7
                    clear hd
                    go_simp
                    refine hK _ _ ?_ (fun h => by cases h)
                    intro s hs
                    cases hs
                    exact ⟨hB, c0, c1, c2, c3, c4, c5, c6, c7, (fun _ => rfl), c9, c10, c11, c12⟩
                  case s9r1 =>
                    rintro L u W ⟨hB, c0, c1, c2, c3, c4, c5, c6, c7, c8, c9, c10, c11, c12⟩ hf hd K hK
                    dsimp only at hK
                    have hd2 : L 2 = true := (by first | (refine hd ⟨2, .data⟩ ?_ rfl; simp; done) | (refine hd ⟨2, .guard⟩ ?_ rfl; simp; done) | (refine hd ⟨2, .phase⟩ ?_ rfl; simp; done) | (refine hd ⟨2, .chain⟩ ?_ rfl; simp; done))
                    have hd8 : L 8 = true := (by first | (refine hd ⟨8, .data⟩ ?_ rfl; simp; done) | (refine hd ⟨8, .guard⟩ ?_ rfl; simp; done) | (refine hd ⟨8, .phase⟩ ?_ rfl; simp; done) | (refine hd ⟨8, .chain⟩ ?_ rfl; simp; done))
                    have e2 := c2 hd2
                    rw [e2] at hK
                    have e8 := c8 hd8
                    rw [e8] at hK
                    have t0 := keepc hB sz2.out
                    clear hd2
                    clear hd8
                    clear hd
                    go_simp
                    refine hK _ _ ?_ (fun h => by cases h)
                    intro s hs
                    cases hs
                    exact ⟨hB, c0, c1, c2, c3, c4, c5, c6, c7, c8, (fun _ => rfl), c10, c11, c12⟩
                  case s10r1 =>
                    rintro L u W ⟨hB, c0, c1, c2, c3, c4, c5, c6, c7, c8, c9, c10, c11, c12⟩ hf hd K hK
                    dsimp only at hK
                    have hd2 : L 2 = true := (by first | (refine hd ⟨2, .data⟩ ?_ rfl; simp; done) | (refine hd ⟨2, .guard⟩ ?_ rfl; simp; done) | (refine hd ⟨2, .phase⟩ ?_ rfl; simp; done) | (refine hd ⟨2, .chain⟩ ?_ rfl; simp; done))
                    have hd4 : L 4 = true := (by first | (refine hd ⟨4, .data⟩ ?_ rfl; simp; done) | (refine hd ⟨4, .guard⟩ ?_ rfl; simp; done) | (refine hd ⟨4, .phase⟩ ?_ rfl; simp; done) | (refine hd ⟨4, .chain⟩ ?_ rfl; simp; done))
                    have hd9 : L 9 = true := (by first | (refine hd ⟨9, .data⟩ ?_ rfl; simp; done) | (refine hd ⟨9, .guard⟩ ?_ rfl; simp; done) | (refine hd ⟨9, .phase⟩ ?_ rfl; simp; done) | (refine hd ⟨9, .chain⟩ ?_ rfl; simp; done))
                    have e2 := c2 hd2
                    rw [e2] at hK
                    have e4 := c4 hd4
                    rw [e4] at hK
                    have e9 := c9 hd9
                    rw [e9] at hK
                    clear hd2
                    clear hd4
                    clear hd9
                    have SB := SA.out _ hB; rw [smB_self] at SB
                    clear hd
                    go_simp
                    go_wp2_with (go_at_call 21; ((with_reducible refine (SB).mono ?_); rintro e w5 ⟨rfl, hb⟩))
                    refine hK _ _ ?_ (fun h => by cases h)
                    intro s hs
                    cases hs
                    exact ⟨hB.trans (hb.mono hB.size), c0, c1, c2, c3, c4, c5, c6, c7, c8, c9, (fun _ => rfl), c11, c12⟩
                  case s11r1 =>
                    rintro L u W ⟨hB, c0, c1, c2, c3, c4, c5, c6, c7, c8, c9, c10, c11, c12⟩ hf hd K hK
                    dsimp only at hK
                    have hd2 : L 2 = true := (by first | (refine hd ⟨2, .data⟩ ?_ rfl; simp; done) | (refine hd ⟨2, .guard⟩ ?_ rfl; simp; done) | (refine hd ⟨2, .phase⟩ ?_ rfl; simp; done) | (refine hd ⟨2, .chain⟩ ?_ rfl; simp; done))
                    have hd10 : L 10 = true := (by first | (refine hd ⟨10, .data⟩ ?_ rfl; simp; done) | (refine hd ⟨10, .guard⟩ ?_ rfl; simp; done) | (refine hd ⟨10, .phase⟩ ?_ rfl; simp; done) | (refine hd ⟨10, .chain⟩ ?_ rfl; simp; done))
                    have e2 := c2 hd2
                    rw [e2] at hK
                    have e10 := c10 hd10
                    rw [e10] at hK
                    clear hd2
                    clear hd10
                    clear hd
                    go_simp
                    refine hK _ _ ?_ (fun h => by cases h)
                    intro s hs
                    cases hs
                    exact ⟨hB, c0, c1, c2, c3, c4, c5, c6, c7, c8, c9, c10, (fun _ => rfl), c12⟩
                  case s12r1 =>
                    rintro L u W ⟨hB, c0, c1, c2, c3, c4, c5, c6, c7, c8, c9, c10, c11, c12⟩ hf hd K hK
                    dsimp only at hK
                    have hd2 : L 2 = true := (by first | (refine hd ⟨2, .data⟩ ?_ rfl; simp; done) | (refine hd ⟨2, .guard⟩ ?_ rfl; simp; done) | (refine hd ⟨2, .phase⟩ ?_ rfl; simp; done) | (refine hd ⟨2, .chain⟩ ?_ rfl; simp; done))
                    have hd11 : L 11 = true := (by first | (refine hd ⟨11, .data⟩ ?_ rfl; simp; done) | (refine hd ⟨11, .guard⟩ ?_ rfl; simp; done) | (refine hd ⟨11, .phase⟩ ?_ rfl; simp; done) | (refine hd ⟨11, .chain⟩ ?_ rfl; simp; done))
                    have e2 := c2 hd2
                    rw [e2] at hK
                    have e11 := c11 hd11
                    rw [e11] at hK
                    clear hd2
                    clear hd11
                    clear hd
                    go_simp
                    refine hK _ _ ?_ (fun h => by cases h)
                    intro s hs
                    cases hs
                    exact ⟨hB, c0, c1, c2, c3, c4, c5, c6, c7, c8, c9, c10, c11, (fun _ => rfl)⟩
                case finr1 =>
                  rintro L u W hL ⟨hB, c0, c1, c2, c3, c4, c5, c6, c7, c8, c9, c10, c11, c12⟩
                  have e0 := c0 (hL 0 (by decide))
                  have e1 := c1 (hL 1 (by decide))
                  have e2 := c2 (hL 2 (by decide))
                  have e3 := c3 (hL 3 (by decide))
                  have e4 := c4 (hL 4 (by decide))
                  have e5 := c5 (hL 5 (by decide))
                  have e6 := c6 (hL 6 (by decide))
                  have e7 := c7 (hL 7 (by decide))
                  have e8 := c8 (hL 8 (by decide))
                  have e9 := c9 (hL 9 (by decide))
                  have e10 := c10 (hL 10 (by decide))
                  have e11 := c11 (hL 11 (by decide))
                  have e12 := c12 (hL 12 (by decide))
                  clear hL c0 c1 c2 c3 c4 c5 c6 c7 c8 c9 c10 c11 c12
                  try simp only [e0, e1, e2, e3, e4, e5, e6, e7, e8, e9, e10, e11, e12]
                  clear e0 e1 e2 e3 e4 e5 e6 e7 e8 e9 e10 e11 e12
                  replace BQ := Lib.hid (BQ.out.trans (hB.mono BQ.out.size))
                  clear kg0 SA sz2 hB
                  go_wp2
                  go_roundw
                  case rel => exact ⟨i + 1, by go_num, hlt, BQ.out⟩
                  case measure => simp [intOf]; omega
        · obtain rfl : k = i := by omega
          clear RIS FD SHP hlt hi
          have km1 := km
          have HB1 := HB
          have B3 := B2
          clear HB0 km0 HB km B2
          have m3 := km1.out.cell (i := 3) rfl
          go_wp2_with fail
          clear m3
          go_loopw [8] (fun x wv => ∃ i : Nat, x = .int .i64 i ∧ i ≤ n4 ∧ Below w2.heap.size w2 wv ∧ Below w.heap.size w wv ∧ Lok wv w.heap.size 26 #[.slice pa1 n1 c1, .slice pa2 n2 c2, .slice pa3 n3 c3, .slice pa4 n4 c4]) (fun x _ => n4 - (intOf x).toNat)
          case atStart => exact ⟨0, rfl, Nat.zero_le _, B3.out, HB1.out, km1.out⟩
          case round =>
            clear B3 HB1 km1
            obtain ⟨i, rfl, hi, hB, hW, hM⟩ := hrel
            have B3 := Lib.hid hB
            have HB := Lib.hid hW
            have km := Lib.hid hM
            clear hB hW hM
            have m3 := km.out.cell (i := 3) rfl
            by_cases hlt : i < n4
            · have i0 : (0 : Int) ≤ (i : Int) := by omega
              have i1 : (i : Int) < (n4 : Int) := by omega
              have i2 : ((i : Int)).toNat = i := by omega
              have CNT := Lib.hid (THR.out i hlt)
              have km0 := km
              have HB0 := HB
              have B30 := B3
              have B4 := Lib.hid (Below.refl wr.heap.size wr)
              clear km HB B3
              go_wp2_with fail
              clear m3
              go_loopw [9, 10] (fun y x wz => ∃ j : Nat, x = .int .i64 j ∧ j ≤ k ∧ y = .int .i64 (((L.take j).countP (fun e => decide ((i : Int) ∈ e.2.2)) : Nat) : Int) ∧ Below wr.heap.size wr wz) (fun _ x _ => k - (intOf x).toNat)
              case atStart => exact ⟨0, rfl, Nat.zero_le _, rfl, B4.out⟩
              case round =>
                clear B4
                obtain ⟨j, rfl, hj, rfl, hB⟩ := hrel
                have B4 := Lib.hid hB
                have HB := Lib.hid (HB0.out.trans (hB.mono HB0.out.size))
                have B3 := Lib.hid (B30.out.trans (hB.mono B30.out.size))
                have km := Lib.hid (km0.out.keep hB)
                clear hB
                by_cases hjt : j < k
                · have j0 : (0 : Int) ≤ (j : Int) := by omega
                  have j1 : (j : Int) < (k : Int) := by omega
                  have j2 : ((j : Int)).toNat = j := by omega
                  obtain ⟨b, o, t, m, ct, x, y, l, rfl, hb, hL, hx, hy, hz, hr, htn, hmc, hcm⟩ := (R2.out.keep B3.out).at hjt
                  rw [← Nat.add_assoc] at hz
                  have IN := Lib.hid (lin_list t m ct l (i : Int) wr hr (by omega))
                  have cl := cn_len (L := L) (p := fun e => decide ((i : Int) ∈ e.2.2)) j
                  clear hx hy hr htn hmc hcm
                  cases hin : inB l (i : Int) with
                  | false =>
                    rw [hin] at IN
                    have CN := Lib.hid (cn_no (p := fun e => decide ((i : Int) ∈ e.2.2)) hL hin)
                    clear hL hin
                    go_wp2_with fail
                    ((with_reducible refine IN.out.mono ?_); rintro e w7 ⟨rfl, hb7⟩)
                    replace B4 := Lib.hid (B4.out.trans (hb7.mono B4.out.size))
                    clear hb7 IN hz km HB B3
                    as_aux_lemma =>
                      go_wp2
                      go_roundw
                      case rel => exact ⟨j + 1, by go_num, hjt, by rw [CN.out], B4.out⟩
                      case measure => simp [intOf]; omega
                  | true =>
                    rw [hin] at IN
                    have CN := Lib.hid (cn_yes (p := fun e => decide ((i : Int) ∈ e.2.2)) hL hin)
                    clear hL hin
                    generalize (L.take j).countP (fun e => decide ((i : Int) ∈ e.2.2)) = cj at *
                    go_wp2_with fail
                    ((with_reducible refine IN.out.mono ?_); rintro e w7 ⟨rfl, hb7⟩)
                    replace B4 := Lib.hid (B4.out.trans (hb7.mono B4.out.size))
                    clear hb7 IN hz km HB B3
                    as_aux_lemma =>
                      go_wp2
                      go_roundw
                      case rel => exact ⟨j + 1, by go_num, hjt, by rw [CN.out]; go_num, B4.out⟩
                      case measure => simp [intOf]; omega
                · obtain rfl : k = j := by omega
                  rw [List.take_of_length_le (Nat.le_of_eq hkl), CNT.out]
                  clear hjt hj CNT
                  obtain ⟨p, o, rfl, hp, hc⟩ := ((M.out.keep HB.out).1.2.2.2).at hlt
                  have d0 := hc i hlt 0 (by omega)
                  have d1 := hc i hlt 1 (by omega)
                  have d2 := hc i hlt 2 (by omega)
                  have d3 := hc i hlt 3 (by omega)
                  have d4 := hc i hlt 4 (by omega)
                  have d5 := hc i hlt 5 (by omega)
                  have d6 := hc i hlt 6 (by omega)
                  have d7 := hc i hlt 7 (by omega)
                  have d8 := hc i hlt 8 (by omega)
                  rw [Nat.add_zero] at d0
                  rw [← Nat.add_assoc] at d1 d2 d3 d4 d5 d6 d7 d8
                  clear hc
                  generalize FC i 0 = y0 at *
                  generalize FC i 1 = y1 at *
                  generalize FC i 2 = y2 at *
                  generalize FC i 3 = y3 at *
                  generalize FC i 4 = y4 at *
                  generalize FC i 5 = y5 at *
                  generalize FC i 6 = y6 at *
                  generalize FC i 7 = y7 at *
                  generalize FC i 8 = y8 at *
                  have m3 := km.out.cell (i := 3) rfl
                  go_upto_region 24 with fail
                  have hbt := Lib.hid (below_new1 wr (.cells #[.int .i64 y0, .int .i64 y1, .int .i64 y2, .int .i64 y3, .int .i64 y4, .int .i64 y5, .int .i64 y6, .int .i64 y7, .int .i64 y8] 51))
                  have hbt := below_new1 wr (.cells #[.int .i64 y0, .int .i64 y1, .int .i64 y2, .int .i64 y3, .int .i64 y4, .int .i64 y5, .int .i64 y6, .int .i64 y7, .int .i64 y8] 51)
                  replace km := Lib.hid (km.out.keep hbt)
                  have zt : (wr.alloc (.cells #[.int .i64 y0, .int .i64 y1, .int .i64 y2, .int .i64 y3, .int .i64 y4, .int .i64 y5, .int .i64 y6, .int .i64 y7, .int .i64 y8] 51)).heap.size = wr.heap.size + 1 := by simp
                  replace HB := Lib.hid (HB.out.trans (hbt.mono HB.out.size))
                  have kt := Lib.hid (Lok.new wr 51 #[.int .i64 y0, .int .i64 y1, .int .i64 y2, .int .i64 y3, .int .i64 y4, .int .i64 y5, .int .i64 y6, .int .i64 y7, .int .i64 y8])
                  clear hbt
                  generalize wr.alloc (.cells #[.int .i64 y0, .int .i64 y1, .int .i64 y2, .int .i64 y3, .int .i64 y4, .int .i64 y5, .int .i64 y6, .int .i64 y7, .int .i64 y8] 51) = Vt at *
                  replace B3 := Lib.hid (B3.out.trans (hbt.out.mono B3.out.size))
                  clear zt hbt d0 d1 d2 d3 d4 d5 d6 d7 d8 m3 B4 km0 HB0 B30
                  have t0 := kt.out.cell (i := 0) rfl
                  have t3 := kt.out.cell (i := 3) rfl
                  have t6 := kt.out.cell (i := 6) rfl
                  clear kt
                  by_cases h1 : y0 = y3
                  · subst h1
                    by_cases h2 : y0 = y6
                    · subst h2
                      rw [show teN y0 y0 y0 = 0 from if_pos ⟨rfl, rfl⟩]
                      have g1 : (y0 != y0) = false := by simp
                      have g2 : (y0 == y0) = true := by simp
                      as_aux_lemma =>
                        go_wp2
                        go_roundw
                        case rel => exact ⟨i + 1, by go_num, hlt, B3.out, HB.out, km.out⟩
                        case measure => simp [intOf]; omega
                    · rw [show teN y0 y0 y6 = 1 from by unfold teN; rw [if_neg (by omega), if_neg (by omega)]]
                      have g1 : (y0 != y0) = false := by simp
                      have g2 : (y0 == y0) = true := by simp
                      have g3 : (y0 == y6) = false := by rw [beq_eq_false_iff_ne]; exact h2
                      as_aux_lemma =>
                        go_wp2
                        go_roundw
                        case rel => exact ⟨i + 1, by go_num, hlt, B3.out, HB.out, km.out⟩
                        case measure => simp [intOf]; omega
                  · have g1 : (y0 != y3) = true := by simpa using h1
                    have g2 : (y0 == y3) = false := by rw [beq_eq_false_iff_ne]; exact h1
                    by_cases h2 : y3 = y6
                    · subst h2
                      rw [show teN y0 y3 y3 = 1 from by unfold teN; rw [if_neg (by omega), if_neg (by omega)]]
                      have g3 : (y3 != y3) = false := by simp
                      as_aux_lemma =>
                        go_wp2
                        go_roundw
                        case rel => exact ⟨i + 1, by go_num, hlt, B3.out, HB.out, km.out⟩
                        case measure => simp [intOf]; omega
                    · have g3 : (y3 != y6) = true := by simpa using h2
                      by_cases h3 : y0 = y6
                      · subst h3
                        rw [show teN y0 y3 y0 = 1 from by unfold teN; rw [if_neg (by omega), if_neg (by omega)]]
                        have g4 : (y0 != y0) = false := by simp
                        as_aux_lemma =>
                          go_wp2
                          go_roundw
                          case rel => exact ⟨i + 1, by go_num, hlt, B3.out, HB.out, km.out⟩
                          case measure => simp [intOf]; omega
                      · rw [show teN y0 y3 y6 = 3 from by unfold teN; rw [if_neg (by omega), if_pos (by omega)]]
                        have g4 : (y0 != y6) = true := by simpa using h3
                        as_aux_lemma =>
                          go_wp2
                          go_roundw
                          case rel => exact ⟨i + 1, by go_num, hlt, B3.out, HB.out, km.out⟩
                          case measure => simp [intOf]; omega
            · obtain rfl : n4 = i := by omega
              go_wp2_with fail
              (((with_reducible refine (ED.out _).mono ?_); rintro e w9 ⟨rfl, hb9⟩); replace HB := Lib.hid (HB.out.trans (hb9.mono HB.out.size)); clear hb9)
              go_wp2
              go_ret
              exact ⟨rfl, HB.out⟩
end Go.Proofs.Ytkheomaihhcokaa
