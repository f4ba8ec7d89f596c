/-
  The law EdgeNext, from what the package is to answer.
-/
import Derived.Test.YtkheomaihhcokaaEgS
import Derived.Test.YtkheomaihhcokaaEgU
import Derived.BigQuiet
namespace Go.Proofs.Ytkheomaihhcokaa
open Go.RowKit

/-- A row of ints and no error, as Next answers. -/
def TuI (W : World) (B : Nat) (L : List Int) (u : Value) : Prop := ∃ v, u = .tuple #[v, .int .i64 0] ∧ OwnI W B v L
theorem TuI.keep {W W' : World} {B : Nat} {L : List Int} {u : Value} (h : TuI W B L u) (hb : Below W.heap.size W W') : TuI W' B L u := by
  obtain ⟨v, e, o⟩ := h; exact ⟨v, e, o.keep hb⟩
theorem nx_ok {i n : Nat} (h : i < n) : okN true (i : Int) n = true := by unfold okN; rw [Bool.true_and]; exact plB_iff.2 ⟨by omega, by omega⟩
theorem nx_all (F : Nat → Nat → Int) (i n : Nat) : nxA true F (i : Int) n = nxL F i n := by unfold nxA; rw [if_pos rfl, Int.toNat_natCast]
set_option maxRecDepth 100000 in
set_option maxHeartbeats 16000000 in
theorem law_next (E : EdgeOK) (pa1 pa2 pa3 pa4 : Option Addr) (n1 n2 n3 n4 c1 c2 c3 c4 : Nat) (FV FT FN FC : Nat → Nat → Int) (w : World) (hm : RowK w pa1 n1 3 FV ∧ RowK w pa2 n2 2 FT ∧ RowK w pa3 n3 3 FN ∧ RowK w pa4 n4 9 FC) :
    Calls Try.prog 4 #[.agg #[.slice pa1 n1 c1, .slice pa2 n2 c2, .slice pa3 n3 c3, .slice pa4 n4 c4]] w fun e w' => e = .returned (.bool true) ∧ Below w.heap.size w w' := by
  have HB := Lib.hid (Below.refl w.heap.size w)
  have FW := Lib.hid (fun W => rfew_any pa1 pa2 pa3 pa4 n1 n2 n3 n4 c1 c2 c3 c4 W)
  have ED := Lib.hid (edged_any E)
  cases hf : fwB n1 n2 n3 n4 with
  | false =>
    rw [hf] at FW
    go_enter Try.func4, Try.ntmps4
    go_upto_region 1 with fail
    have hbm := below_new1 w (.cells #[.slice pa1 n1 c1, .slice pa2 n2 c2, .slice pa3 n3 c3, .slice pa4 n4 c4] 26)
    have zm : (w.alloc (.cells #[.slice pa1 n1 c1, .slice pa2 n2 c2, .slice pa3 n3 c3, .slice pa4 n4 c4] 26)).heap.size = w.heap.size + 1 := by simp
    have HB := Lib.hid hbm
    have km := Lib.hid (Lok.new w 26 #[.slice pa1 n1 c1, .slice pa2 n2 c2, .slice pa3 n3 c3, .slice pa4 n4 c4])
    clear hbm
    generalize w.alloc (.cells #[.slice pa1 n1 c1, .slice pa2 n2 c2, .slice pa3 n3 c3, .slice pa4 n4 c4] 26) = Vm at *
    clear zm
    have m0 := km.out.cell (i := 0) rfl
    have m1 := km.out.cell (i := 1) rfl
    have m2 := km.out.cell (i := 2) rfl
    have m3 := km.out.cell (i := 3) rfl
    go_wp2_with fail
    clear m0 m1 m2 m3 km
    (((with_reducible refine (FW.out _).mono ?_); rintro e w1 ⟨rfl, hb1⟩); replace HB := Lib.hid (HB.out.trans (hb1.mono HB.out.size)); clear hb1)
    go_wp2_with fail
    (((with_reducible refine (ED.out _).mono ?_); rintro e w2 ⟨rfl, hb2⟩); replace HB := Lib.hid (HB.out.trans (hb2.mono HB.out.size)); clear hb2)
    go_wp2
    go_ret
    exact ⟨rfl, HB.out⟩
  | true =>
    have q := fw_yes hf
    rw [hf] at FW
    have M := Lib.hid (show MsW w pa1 pa2 pa3 pa4 n1 n2 n3 n4 FV FT FN FC from ⟨hm, by omega, by omega, by omega, by omega⟩)
    have IS := Lib.hid (fun W (h : Below w.heap.size w W) => mis_any pa1 pa2 pa3 pa4 n1 n2 n3 n4 c1 c2 c3 c4 FV FT FN FC W (M.out.keep h))
    clear hf
    cases hr : msB n1 n2 n3 n4 FV FT FN FC with
    | false =>
      rw [hr] at IS
      go_enter Try.func4, Try.ntmps4
      go_upto_region 1 with fail
      have hbm := below_new1 w (.cells #[.slice pa1 n1 c1, .slice pa2 n2 c2, .slice pa3 n3 c3, .slice pa4 n4 c4] 26)
      have zm : (w.alloc (.cells #[.slice pa1 n1 c1, .slice pa2 n2 c2, .slice pa3 n3 c3, .slice pa4 n4 c4] 26)).heap.size = w.heap.size + 1 := by simp
      have HB := Lib.hid hbm
      have km := Lib.hid (Lok.new w 26 #[.slice pa1 n1 c1, .slice pa2 n2 c2, .slice pa3 n3 c3, .slice pa4 n4 c4])
      clear hbm
      generalize w.alloc (.cells #[.slice pa1 n1 c1, .slice pa2 n2 c2, .slice pa3 n3 c3, .slice pa4 n4 c4] 26) = Vm at *
      clear zm
      have m0 := km.out.cell (i := 0) rfl
      have m1 := km.out.cell (i := 1) rfl
      have m2 := km.out.cell (i := 2) rfl
      have m3 := km.out.cell (i := 3) rfl
      go_wp2_with fail
      clear m0 m1 m2 m3
      (((with_reducible refine (FW.out _).mono ?_); rintro e w1 ⟨rfl, hb1⟩); replace HB := Lib.hid (HB.out.trans (hb1.mono HB.out.size)); replace km := Lib.hid (km.out.keep hb1); clear hb1)
      have m0 := km.out.cell (i := 0) rfl
      have m1 := km.out.cell (i := 1) rfl
      have m2 := km.out.cell (i := 2) rfl
      have m3 := km.out.cell (i := 3) rfl
      go_wp2_with fail
      clear m0 m1 m2 m3 km
      (((with_reducible refine (IS.out _ HB.out).mono ?_); rintro e w2 ⟨rfl, hb2⟩); replace HB := Lib.hid (HB.out.trans (hb2.mono HB.out.size)); clear hb2)
      go_wp2_with fail
      (((with_reducible refine (ED.out _).mono ?_); rintro e w3 ⟨rfl, hb3⟩); replace HB := Lib.hid (HB.out.trans (hb3.mono HB.out.size)); clear hb3)
      go_wp2
      go_ret
      exact ⟨rfl, HB.out⟩
    | true =>
      rw [hr] at IS
      have EG := Lib.hid (fun W (h : Below w.heap.size w W) => E.edges pa1 pa2 pa3 pa4 n1 n2 n3 n4 c1 c2 c3 c4 FV FT FN FC W (M.out.keep h) q.1 q.2.2.2)
      have NX := Lib.hid (fun (i : Nat) (hi : i < n4) W (h : Below w.heap.size w W) => E.next pa1 pa2 pa3 pa4 n1 n2 n3 n4 c1 c2 c3 c4 FV FT FN FC (i : Int) W (M.out.keep h) q.1 q.2.2.2)
      have PA := Lib.hid (fun W (h : Below w.heap.size w W) => E.parts pa1 pa2 pa3 pa4 n1 n2 n3 n4 c1 c2 c3 c4 FV FT FN FC W (M.out.keep h) q.1 q.2.2.2)
      rw [hr, show agE true = 0 from rfl] at EG PA
      rw [show egA true FC n4 n1 = eaL FC n4 n1 n1 from rfl] at EG
      rw [show ptA true FC n4 = ptR FC n4 n4 from rfl] at PA
      have NX2 : Hid (∀ (i : Nat) (hi : i < n4) W (h : Below w.heap.size w W), Calls Try.prog 13 #[.agg #[.slice pa1 n1 c1, .slice pa2 n2 c2, .slice pa3 n3 c3, .slice pa4 n4 c4], .int .i64 (i : Int)] W fun e w' => (∃ v, e = .returned (.tuple #[v, .int .i64 0]) ∧ OwnI w' W.heap.size v (nxL FC i n4)) ∧ Below W.heap.size W w') := Lib.hid (fun i hi W h => by
        have z := NX.out i hi W h
        rw [hr, nx_ok hi, nx_all] at z
        exact z)
      have RNG : Hid (∀ i, i < n4 → ∀ j, j = 0 ∨ j = 3 ∨ j = 6 → 0 ≤ FC i j ∧ FC i j < (n1 : Int)) := Lib.hid (fun i hi j hj => by
        unfold msB at hr
        rw [Bool.and_eq_true, Bool.and_eq_true, Bool.and_eq_true, Bool.and_eq_true] at hr
        have t := (allB_iff _ _).1 hr.2.2.2.2 i hi
        have t2 := fun k (hk : k < 3) => cnB_iff.1 ((allB_iff _ _).1 t k hk)
        rcases hj with rfl | rfl | rfl
        · exact (t2 0 (by omega)).1
        · exact (t2 1 (by omega)).1
        · exact (t2 2 (by omega)).1)
      clear NX hr hm M E
      go_enter Try.func4, Try.ntmps4
      go_upto_region 1 with fail
      have hbm := below_new1 w (.cells #[.slice pa1 n1 c1, .slice pa2 n2 c2, .slice pa3 n3 c3, .slice pa4 n4 c4] 26)
      have zm : (w.alloc (.cells #[.slice pa1 n1 c1, .slice pa2 n2 c2, .slice pa3 n3 c3, .slice pa4 n4 c4] 26)).heap.size = w.heap.size + 1 := by simp
      have HB := Lib.hid hbm
      have km := Lib.hid (Lok.new w 26 #[.slice pa1 n1 c1, .slice pa2 n2 c2, .slice pa3 n3 c3, .slice pa4 n4 c4])
      clear hbm
      generalize w.alloc (.cells #[.slice pa1 n1 c1, .slice pa2 n2 c2, .slice pa3 n3 c3, .slice pa4 n4 c4] 26) = Vm at *
      clear zm
      have m0 := km.out.cell (i := 0) rfl
      have m1 := km.out.cell (i := 1) rfl
      have m2 := km.out.cell (i := 2) rfl
      have m3 := km.out.cell (i := 3) rfl
      go_wp2_with fail
      clear m0 m1 m2 m3
      (((with_reducible refine (FW.out _).mono ?_); rintro e w1 ⟨rfl, hb1⟩); replace HB := Lib.hid (HB.out.trans (hb1.mono HB.out.size)); replace km := Lib.hid (km.out.keep hb1); clear hb1)
      have m0 := km.out.cell (i := 0) rfl
      have m1 := km.out.cell (i := 1) rfl
      have m2 := km.out.cell (i := 2) rfl
      have m3 := km.out.cell (i := 3) rfl
      go_wp2_with fail
      clear m0 m1 m2 m3 FW
      (((with_reducible refine (IS.out _ HB.out).mono ?_); rintro e w2 ⟨rfl, hb2⟩); replace HB := Lib.hid (HB.out.trans (hb2.mono HB.out.size)); replace km := Lib.hid (km.out.keep hb2); clear hb2)
      clear IS
      have m0 := km.out.cell (i := 0) rfl
      have m1 := km.out.cell (i := 1) rfl
      have m2 := km.out.cell (i := 2) rfl
      have m3 := km.out.cell (i := 3) rfl
      go_wp2_with fail
      clear m0 m1 m2 m3
      ((with_reducible refine (EG.out _ HB.out).mono ?_); rintro e w3 ⟨⟨v3, Z3, rfl, O3, HZ3⟩, hb3⟩)
      clear EG
      obtain ⟨a3, d3, rfl, -, lc3, mc3, R3⟩ := rowE_of_own O3
      rw [HZ3] at R3
      have l3 : Z3.length ≤ 9223372036854775807 := by omega
      clear O3 HZ3
      generalize Z3.length = k3 at *
      replace R3 := Lib.hid R3
      replace HB := Lib.hid (HB.out.trans (hb3.mono HB.out.size))
      replace km := Lib.hid (km.out.keep hb3)
      clear hb3
      have m0 := km.out.cell (i := 0) rfl
      have m1 := km.out.cell (i := 1) rfl
      have m2 := km.out.cell (i := 2) rfl
      have m3 := km.out.cell (i := 3) rfl
      go_wp2_with fail
      clear m0 m1 m2 m3
      ((with_reducible refine (PA.out _ HB.out).mono ?_); rintro e w4 ⟨⟨v4, rfl, O4⟩, hb4⟩)
      clear PA
      obtain ⟨a4, d4, rfl, -, -, mc4, R4⟩ := rowI_of_own O4
      simp only [ptR_len] at R4 ⊢
      clear O4
      replace R4 := Lib.hid R4
      replace R3 := Lib.hid (R3.out.keep hb4)
      replace HB := Lib.hid (HB.out.trans (hb4.mono HB.out.size))
      replace km := Lib.hid (km.out.keep hb4)
      have B4 := Lib.hid (Below.refl w4.heap.size w4)
      clear hb4
      have m3 := km.out.cell (i := 3) rfl
      have HB0 := HB
      have km0 := km
      clear HB km
      go_wp2_with fail
      clear m3
      go_loopw [7] (fun x wr => ∃ i : Nat, x = .int .i64 i ∧ i ≤ n4 ∧ Below w4.heap.size w4 wr) (fun x _ => n4 - (intOf x).toNat)
      case atStart => exact ⟨0, rfl, Nat.zero_le _, B4.out⟩
      case round =>
        clear B4
        obtain ⟨i, rfl, hi, hB⟩ := hrel
        have HB := Lib.hid (HB0.out.trans (hB.mono HB0.out.size))
        have km := Lib.hid (km0.out.keep hB)
        have B4 := Lib.hid hB
        clear hB
        have m3 := km.out.cell (i := 3) rfl
        by_cases hlt : i < n4
        · have i0 : (0 : Int) ≤ (i : Int) := by omega
          have i1 : (i : Int) < (n4 : Int) := by omega
          have i2 : ((i : Int)).toNat = i := by omega
          have m0 := km.out.cell (i := 0) rfl
          have m1 := km.out.cell (i := 1) rfl
          have m2 := km.out.cell (i := 2) rfl
          go_wp2_with fail
          clear m0 m1 m2 m3
          ((with_reducible refine (NX2.out i hlt _ HB.out).mono ?_); rintro e w5 ⟨⟨v5, rfl, O5⟩, hb5⟩)
          obtain ⟨a5, d5, rfl, -, -, mc5, R5⟩ := rowI_of_own O5
          clear O5
          have B5 := Lib.hid (B4.out.trans (hb5.mono B4.out.size))
          have MEM : Hid (∀ j, j < (nxL FC i n4).length → ∃ k : Nat, k < n4 ∧ (nxL FC i n4).getD j 0 = (k : Int) ∧ nxB FC i k = true) := Lib.hid (fun j hj => nx_mem.1 (mem_at hj))
          have RIS : Hid (∀ j, j + 1 < (nxL FC i n4).length → (nxL FC i n4).getD j 0 < (nxL FC i n4).getD (j + 1) 0) := Lib.hid (fun j hj => rise_at (nx_rise FC i n4) (by omega) hj)
          have lm : (nxL FC i n4).length ≤ n4 := nxL_len FC i n4
          generalize nxL FC i n4 = LN at *
          obtain ⟨m, hm⟩ : ∃ m, m = LN.length := ⟨_, rfl⟩
          rw [← hm] at R5 lm ⊢
          have MEM2 : Hid (∀ j, j < m → ∃ k : Nat, k < n4 ∧ LN.getD j 0 = (k : Int) ∧ nxB FC i k = true) := Lib.hid (fun j hj => MEM.out j (by omega))
          have RIS2 : Hid (∀ j, j + 1 < m → LN.getD j 0 < LN.getD (j + 1) 0) := Lib.hid (fun j hj => RIS.out j (by omega))
          clear MEM RIS hm
          replace R5 := Lib.hid R5
          have HB5 := Lib.hid (HB.out.trans (hb5.mono HB.out.size))
          have km5 := Lib.hid (km.out.keep hb5)
          clear hb5 HB km B4
          have C5 := Lib.hid (Below.refl w5.heap.size w5)
          go_wp2_with fail
          go_loopw [10] (fun x wv => ∃ j : Nat, x = .int .i64 j ∧ j ≤ m ∧ Below w5.heap.size w5 wv) (fun x _ => m - (intOf x).toNat)
          case atStart => exact ⟨0, rfl, Nat.zero_le _, C5.out⟩
          case round =>
            clear C5
            obtain ⟨j, rfl, hj, hB⟩ := hrel
            have HB := Lib.hid (HB5.out.trans (hB.mono HB5.out.size))
            have km := Lib.hid (km5.out.keep hB)
            have C5 := Lib.hid hB
            have BF := Lib.hid (B5.out.trans (hB.mono B5.out.size))
            clear hB
            by_cases hjm : j < m
            · obtain ⟨k, hk4, hkv, hnx⟩ := MEM2.out j hjm
              have j0 : (0 : Int) ≤ (j : Int) := by omega
              have j1 : (j : Int) < (m : Int) := by omega
              have j2 : ((j : Int)).toNat = j := by omega
              have k0 : (0 : Int) ≤ (k : Int) := by omega
              have k1 : (k : Int) < (n4 : Int) := by omega
              have k2 : ((k : Int)).toNat = k := by omega
              have q3 : ¬ (k : Int) < 0 := by omega
              have q4 : ¬ (n4 : Int) ≤ (k : Int) := by omega
              have q5 : ¬ n4 ≤ k := by omega
              have ki : ¬ k = i := fun e => by rw [e, nxB_same] at hnx; cases hnx
              have q6 : ((k : Int) == (i : Int)) = false := by rw [beq_eq_false_iff_ne]; omega
              have q7 : ¬ (k : Int) = (i : Int) := by omega
              have R5b := Lib.hid (R5.out.keep C5.out)
              have R4b := Lib.hid (R4.out.keep BF.out)
              have PEQ : (ptR FC n4 n4).getD k 0 = (ptR FC n4 n4).getD i 0 := pt_next hk4 hlt (by rw [nxB_symm]; exact hnx)
              obtain ⟨b4, o4, e4, hb4, hc4⟩ := R4b.out.at hlt
              have p1 := hc4 k hk4
              have p2 := hc4 i hlt
              rw [PEQ] at p1
              clear hc4 PEQ
              subst e4
              obtain ⟨b5, o5, e5, hb5, hc5⟩ := R5b.out.at hjm
              have s1 := hc5 j hjm
              rw [hkv] at s1
              have S0 := Lib.hid hc5
              subst e5
              clear hc5
              generalize (ptR FC n4 n4).getD i 0 = P at *
              have NXK := Lib.hid hnx
              have RS := Lib.hid hkv
              clear hnx hkv
              have m3 := km.out.cell (i := 3) rfl
              rcases Nat.eq_zero_or_pos j with hz | hz
              · have z1 : ¬ (0 : Int) < (j : Int) := by omega
                have z2 : ¬ 0 < j := by omega
                have z3 : (0 : Int) < (j : Int) ↔ False := ⟨z1, False.elim⟩
                clear hz
                go_upto_region 16 with fail
                go_quiet (fail)
                go_upto_region 18 with fail
                obtain ⟨wq, hwq, hbq⟩ : ∃ wq, wq = wr.drewN nq ∧ Below wr.heap.size wr wq := ⟨_, rfl, below_drewN (Below.refl _ _) _⟩
                rw [← hwq]
                have sq := keepc hbq s1
                have kq := Lib.hid (km.out.keep hbq)
                have HQ := Lib.hid (HB.out.trans (hbq.mono HB.out.size))
                have CQ := Lib.hid (C5.out.trans (hbq.mono C5.out.size))
                have BQ := Lib.hid (BF.out.trans (hbq.mono BF.out.size))
                clear hwq p1 p2 m3 s1 z1 z2 z3
                refine wp_region_rel (by kernel_rfl) [120, 121, 122, 123, 124, 125, 126, 127, 128, 11, 12] ?Fr1 ?hFr1
                  (fun L u W => Below wq.heap.size wq W ∧ (L 0 = true → u 121 = .agg #[.slice pa1 n1 c1, .slice pa2 n2 c2, .slice pa3 n3 c3, .slice pa4 n4 c4]) ∧ (L 1 = true → u 122 = .slice (some ⟨b5, o5, none⟩) m d5) ∧ (L 2 = true → u 123 = .int .i64 (j : Int)) ∧ (L 3 = true → u 124 = .pointer (some ⟨b5, o5 + j, none⟩)) ∧ (L 4 = true → u 125 = .int .i64 (k : Int)) ∧ (L 5 = true → TuI W wq.heap.size (nxL FC k n4) (u 126)) ∧ (L 6 = true → TuI W wq.heap.size (nxL FC k n4) (u 120)) ∧ (L 7 = true → OwnI W wq.heap.size (u 127) (nxL FC k n4)) ∧ (L 8 = true → u 128 = .int .i64 0) ∧ (L 9 = true → OwnI W wq.heap.size (u 11) (nxL FC k n4)) ∧ (L 10 = true → u 12 = .int .i64 0)) (by kernel_rfl) (by kernel_rfl) 11 rfl ?h0r1 ?stepr1 ?finr1
                case hFr1 => intro u; simp only [putAll, Act.put, List.setIfInBounds_toArray, List.set]; exact rfl
                case h0r1 => intro L u hL; exact ⟨(Below.refl _ _).drew, (fun h => by simp [hL] at h), (fun h => by simp [hL] at h), (fun h => by simp [hL] at h), (fun h => by simp [hL] at h), (fun h => by simp [hL] at h), (fun h => by simp [hL] at h), (fun h => by simp [hL] at h), (fun h => by simp [hL] at h), (fun h => by simp [hL] at h), (fun h => by simp [hL] at h), (fun h => by simp [hL] at h)⟩
                case stepr1 =>
                  refine ops_all (ops_cons ?s0r1 (ops_cons ?s1r1 (ops_cons ?s2r1 (ops_cons ?s3r1 (ops_cons ?s4r1 (ops_cons ?s5r1 (ops_cons ?s6r1 (ops_cons ?s7r1 (ops_cons ?s8r1 (ops_cons ?s9r1 (ops_cons ?s10r1 (ops_nil))))))))))))
                  case s0r1 =>
                    rintro L u W ⟨hB, c0, c1, c2, c3, c4, c5, c6, c7, c8, c9, c10⟩ hf hd K hK
                    dsimp only at hK
                    have t0 := (kq.out.keep hB).cell (i := 0) rfl
                    have t1 := (kq.out.keep hB).cell (i := 1) rfl
                    have t2 := (kq.out.keep hB).cell (i := 2) rfl
                    have t3 := (kq.out.keep hB).cell (i := 3) rfl
                    clear hd
                    go_simp
                    refine hK _ _ ?_ (fun h => by cases h)
                    intro s hs
                    cases hs
                    exact ⟨hB, (fun _ => rfl), c1, c2, c3, c4, c5, c6, c7, c8, c9, c10⟩
                  case s1r1 =>
                    rintro L u W ⟨hB, c0, c1, c2, c3, c4, c5, c6, c7, c8, c9, c10⟩ hf hd K hK
                    dsimp only at hK
                    clear hd
                    go_simp
                    refine hK _ _ ?_ (fun h => by cases h)
                    intro s hs
                    cases hs
                    exact ⟨hB, c0, (fun _ => rfl), c2, c3, c4, c5, c6, c7, c8, c9, c10⟩
                  case s2r1 =>
                    rintro L u W ⟨hB, c0, c1, c2, c3, c4, c5, c6, c7, c8, c9, c10⟩ hf hd K hK
                    dsimp only at hK
                    clear hd
                    go_simp
                    refine hK _ _ ?_ (fun h => by cases h)
                    intro s hs
                    cases hs
                    exact ⟨hB, c0, c1, (fun _ => rfl), c3, c4, c5, c6, c7, c8, c9, c10⟩
                  case s3r1 =>
                    rintro L u W ⟨hB, c0, c1, c2, c3, c4, c5, c6, c7, c8, c9, c10⟩ hf hd K hK
                    dsimp only at hK
                    have hd1 : L 1 = true := (by first | (refine hd ⟨1, .data⟩ ?_ rfl; simp; done) | (refine hd ⟨1, .guard⟩ ?_ rfl; simp; done) | (refine hd ⟨1, .phase⟩ ?_ rfl; simp; done) | (refine hd ⟨1, .chain⟩ ?_ rfl; simp; done))
                    have hd2 : L 2 = true := (by first | (refine hd ⟨2, .data⟩ ?_ rfl; simp; done) | (refine hd ⟨2, .guard⟩ ?_ rfl; simp; done) | (refine hd ⟨2, .phase⟩ ?_ rfl; simp; done) | (refine hd ⟨2, .chain⟩ ?_ rfl; simp; done))
                    have e1 := c1 hd1
                    rw [e1] at hK
                    have e2 := c2 hd2
                    rw [e2] at hK
                    clear hd1
                    clear hd2
                    clear hd
                    go_simp
                    refine hK _ _ ?_ (fun h => by cases h)
                    intro s hs
                    cases hs
                    exact ⟨hB, c0, c1, c2, (fun _ => rfl), c4, c5, c6, c7, c8, c9, c10⟩
                  case s4r1 =>
                    rintro L u W ⟨hB, c0, c1, c2, c3, c4, c5, c6, c7, c8, c9, c10⟩ hf hd K hK
                    dsimp only at hK
                    have hd3 : L 3 = true := (by first | (refine hd ⟨3, .data⟩ ?_ rfl; simp; done) | (refine hd ⟨3, .guard⟩ ?_ rfl; simp; done) | (refine hd ⟨3, .phase⟩ ?_ rfl; simp; done) | (refine hd ⟨3, .chain⟩ ?_ rfl; simp; done))
                    have e3 := c3 hd3
                    rw [e3] at hK
                    have t0 := keepc hB sq
                    clear hd3
                    clear hd
                    go_simp
                    refine hK _ _ ?_ (fun h => by cases h)
                    intro s hs
                    cases hs
                    exact ⟨hB, c0, c1, c2, c3, (fun _ => rfl), c5, c6, c7, c8, c9, c10⟩
                  case s5r1 =>
                    rintro L u W ⟨hB, c0, c1, c2, c3, c4, c5, c6, c7, c8, c9, c10⟩ hf hd K hK
                    dsimp only at hK
                    have hd0 : L 0 = true := (by first | (refine hd ⟨0, .data⟩ ?_ rfl; simp; done) | (refine hd ⟨0, .guard⟩ ?_ rfl; simp; done) | (refine hd ⟨0, .phase⟩ ?_ rfl; simp; done) | (refine hd ⟨0, .chain⟩ ?_ rfl; simp; done))
                    have hd4 : L 4 = true := (by first | (refine hd ⟨4, .data⟩ ?_ rfl; simp; done) | (refine hd ⟨4, .guard⟩ ?_ rfl; simp; done) | (refine hd ⟨4, .phase⟩ ?_ rfl; simp; done) | (refine hd ⟨4, .chain⟩ ?_ rfl; simp; done))
                    have e0 := c0 hd0
                    rw [e0] at hK
                    have e4 := c4 hd4
                    rw [e4] at hK
                    clear hd0
                    clear hd4
                    clear hd
                    go_simp
                    go_wp2_with (go_at_call 13; ((with_reducible refine (NX2.out k hk4 _ (HQ.out.trans (hB.mono HQ.out.size))).mono ?_); rintro e w5 ⟨⟨v9, rfl, q0⟩, hb⟩))
                    have q : TuI w5 wq.heap.size (nxL FC k n4) (.tuple #[v9, .int .i64 0]) := ⟨_, rfl, ownI_mono q0 hB.size⟩
                    refine hK _ _ ?_ (fun h => by cases h)
                    intro s hs
                    cases hs
                    exact ⟨hB.trans (hb.mono hB.size), c0, c1, c2, c3, c4, (fun _ => q), (fun h => (c6 h).keep hb), (fun h => (c7 h).keep hb), c8, (fun h => (c9 h).keep hb), c10⟩
                  case s6r1 =>
                    rintro L u W ⟨hB, c0, c1, c2, c3, c4, c5, c6, c7, c8, c9, c10⟩ hf hd K hK
                    dsimp only at hK
                    have hd5 : L 5 = true := (by first | (refine hd ⟨5, .data⟩ ?_ rfl; simp; done) | (refine hd ⟨5, .guard⟩ ?_ rfl; simp; done) | (refine hd ⟨5, .phase⟩ ?_ rfl; simp; done) | (refine hd ⟨5, .chain⟩ ?_ rfl; simp; done))
                    have e5 := c5 hd5
                    obtain ⟨v, ev, ov⟩ := e5
                    rw [ev] at hK
                    have q : TuI W wq.heap.size (nxL FC k n4) (.tuple #[v, .int .i64 0]) := ⟨_, rfl, ov⟩
                    clear hd5
                    clear hd
                    go_simp
                    refine hK _ _ ?_ (fun h => by cases h)
                    intro s hs
                    cases hs
                    exact ⟨hB, c0, c1, c2, c3, c4, c5, (fun _ => q), c7, c8, c9, c10⟩
                  case s7r1 =>
                    rintro L u W ⟨hB, c0, c1, c2, c3, c4, c5, c6, c7, c8, c9, c10⟩ hf hd K hK
                    dsimp only at hK
                    have hd6 : L 6 = true := (by first | (refine hd ⟨6, .data⟩ ?_ rfl; simp; done) | (refine hd ⟨6, .guard⟩ ?_ rfl; simp; done) | (refine hd ⟨6, .phase⟩ ?_ rfl; simp; done) | (refine hd ⟨6, .chain⟩ ?_ rfl; simp; done))
                    have e6 := c6 hd6
                    obtain ⟨v, ev, ov⟩ := e6
                    rw [ev] at hK
                    have q : OwnI W wq.heap.size v (nxL FC k n4) := ov
                    clear hd6
                    clear hd
                    go_simp
                    refine hK _ _ ?_ (fun h => by cases h)
                    intro s hs
                    cases hs
                    exact ⟨hB, c0, c1, c2, c3, c4, c5, c6, (fun _ => q), c8, c9, c10⟩
                  case s8r1 =>
                    rintro L u W ⟨hB, c0, c1, c2, c3, c4, c5, c6, c7, c8, c9, c10⟩ hf hd K hK
                    dsimp only at hK
                    have hd6 : L 6 = true := (by first | (refine hd ⟨6, .data⟩ ?_ rfl; simp; done) | (refine hd ⟨6, .guard⟩ ?_ rfl; simp; done) | (refine hd ⟨6, .phase⟩ ?_ rfl; simp; done) | (refine hd ⟨6, .chain⟩ ?_ rfl; simp; done))
                    have e6 := c6 hd6
                    obtain ⟨v, ev, ov⟩ := e6
                    rw [ev] at hK
                    clear hd6
                    clear hd
                    go_simp
                    refine hK _ _ ?_ (fun h => by cases h)
                    intro s hs
                    cases hs
                    exact ⟨hB, c0, c1, c2, c3, c4, c5, c6, c7, (fun _ => rfl), c9, c10⟩
                  case s9r1 =>
                    rintro L u W ⟨hB, c0, c1, c2, c3, c4, c5, c6, c7, c8, c9, c10⟩ hf hd K hK
                    dsimp only at hK
                    have hd7 : L 7 = true := (by first | (refine hd ⟨7, .data⟩ ?_ rfl; simp; done) | (refine hd ⟨7, .guard⟩ ?_ rfl; simp; done) | (refine hd ⟨7, .phase⟩ ?_ rfl; simp; done) | (refine hd ⟨7, .chain⟩ ?_ rfl; simp; done))
                    have e7 := c7 hd7
                    have q := e7
                    clear hd7
                    clear hd
                    go_simp
                    refine hK _ _ ?_ (fun h => by cases h)
                    intro s hs
                    cases hs
                    exact ⟨hB, c0, c1, c2, c3, c4, c5, c6, c7, c8, (fun _ => q), c10⟩
                  case s10r1 =>
                    rintro L u W ⟨hB, c0, c1, c2, c3, c4, c5, c6, c7, c8, c9, c10⟩ hf hd K hK
                    dsimp only at hK
                    have hd8 : L 8 = true := (by first | (refine hd ⟨8, .data⟩ ?_ rfl; simp; done) | (refine hd ⟨8, .guard⟩ ?_ rfl; simp; done) | (refine hd ⟨8, .phase⟩ ?_ rfl; simp; done) | (refine hd ⟨8, .chain⟩ ?_ rfl; simp; done))
                    have e8 := c8 hd8
                    rw [e8] at hK
                    clear hd8
                    clear hd
                    go_simp
                    refine hK _ _ ?_ (fun h => by cases h)
                    intro s hs
                    cases hs
                    exact ⟨hB, c0, c1, c2, c3, c4, c5, c6, c7, c8, c9, (fun _ => rfl)⟩
                case finr1 =>
                  rintro L u W hL ⟨hB, c0, c1, c2, c3, c4, c5, c6, c7, c8, c9, c10⟩
                  have e0 := c0 (hL 0 (by decide))
                  have e1 := c1 (hL 1 (by decide))
                  have e2 := c2 (hL 2 (by decide))
                  have e3 := c3 (hL 3 (by decide))
                  have e4 := c4 (hL 4 (by decide))
                  have kq5 := c5 (hL 5 (by decide))
                  have kq6 := c6 (hL 6 (by decide))
                  have kq7 := c7 (hL 7 (by decide))
                  have e8 := c8 (hL 8 (by decide))
                  have kq9 := c9 (hL 9 (by decide))
                  have e10 := c10 (hL 10 (by decide))
                  clear hL c0 c1 c2 c3 c4 c5 c6 c7 c8 c9 c10
                  try simp only [e0, e1, e2, e3, e4, e8, e10]
                  clear e0 e1 e2 e3 e4 e8 e10
                  generalize u 11 = uB at *
                  generalize u 120 = uC at *
                  generalize u 126 = uD at *
                  generalize u 127 = uE at *
                  obtain ⟨aB, dB, rfl, -, -, mB, RB⟩ := rowI_of_own kq9
                  clear kq5 kq6 kq7 kq9
                  have lenb : (nxL FC k n4).length ≤ n4 := nxL_len FC k n4
                  have IN := lin_list aB (nxL FC k n4).length dB (nxL FC k n4) (i : Int) W RB (by omega)
                  rw [show inB (nxL FC k n4) (i : Int) = true from decide_eq_true (nx_mem.2 ⟨i, hlt, rfl, by rw [nxB_symm]; exact NXK.out⟩)] at IN
                  have SHE : sdB (eaL FC n4 n1 n1) (i : Int) (k : Int) = true := decide_eq_true (ea_share hlt hk4 (RNG.out i hlt) NXK.out)
                  have sW := keepc hB sq
                  replace CQ := Lib.hid (CQ.out.trans (hB.mono CQ.out.size))
                  replace BQ := Lib.hid (BQ.out.trans (hB.mono BQ.out.size))
                  clear RB sq hB HQ HB HB0 HB5
                  go_wp2_with fail
                  ((with_reducible refine IN.mono ?_); rintro e w7 ⟨rfl, hb7⟩)
                  replace sW := keepc hb7 sW
                  replace CQ := Lib.hid (CQ.out.trans (hb7.mono CQ.out.size))
                  replace BQ := Lib.hid (BQ.out.trans (hb7.mono BQ.out.size))
                  have SH := lshared_edges a3 k3 d3 (eaL FC n4 n1 n1) (i : Int) (k : Int) w7 (R3.out.keep BQ.out) l3
                  rw [SHE] at SH
                  clear hb7 IN SHE
                  go_wp2_with fail
                  ((with_reducible refine SH.mono ?_); rintro e w8 ⟨rfl, hb8⟩)
                  replace CQ := Lib.hid (CQ.out.trans (hb8.mono CQ.out.size))
                  clear hb8 SH sW
                  go_wp2
                  go_roundw
                  case rel => exact ⟨j + 1, by go_num, hjm, CQ.out⟩
                  case measure => simp [intOf]; omega
              · obtain ⟨j', hj'⟩ : ∃ j', j = j' + 1 := ⟨j - 1, by omega⟩
                have s2 := S0.out j' (by omega)
                have y1 : LN.getD j' 0 < (k : Int) := by
                  have := RIS2.out j' (by omega)
                  rw [← hj', RS.out] at this
                  exact this
                generalize LN.getD j' 0 = y at *
                have y2 : ¬ (k : Int) ≤ y := by omega
                have z1 : (0 : Int) < (j : Int) := by omega
                have z2 : 0 < j := hz
                have z4 : (0 : Int) ≤ (j : Int) - 1 := by omega
                have z5 : (j : Int) - 1 < (m : Int) := by omega
                have z6 : ((j : Int) - 1).toNat = j' := by omega
                have z7 : (1 : Int) ≤ (j : Int) := by omega
                have z8 : 1 ≤ j := hz
                clear hz hj'
                go_upto_region 16 with fail
                go_quiet (fail)
                go_upto_region 18 with fail
                obtain ⟨wq, hwq, hbq⟩ : ∃ wq, wq = wr.drewN nq ∧ Below wr.heap.size wr wq := ⟨_, rfl, below_drewN (Below.refl _ _) _⟩
                rw [← hwq]
                have sq := keepc hbq s1
                have kq := Lib.hid (km.out.keep hbq)
                have HQ := Lib.hid (HB.out.trans (hbq.mono HB.out.size))
                have CQ := Lib.hid (C5.out.trans (hbq.mono C5.out.size))
                have BQ := Lib.hid (BF.out.trans (hbq.mono BF.out.size))
                clear hwq p1 p2 m3 s1 s2 y1 y2 z1 z2 z4 z5 z6 z7 z8
                refine wp_region_rel (by kernel_rfl) [120, 121, 122, 123, 124, 125, 126, 127, 128, 11, 12] ?Fr2 ?hFr2
                  (fun L u W => Below wq.heap.size wq W ∧ (L 0 = true → u 121 = .agg #[.slice pa1 n1 c1, .slice pa2 n2 c2, .slice pa3 n3 c3, .slice pa4 n4 c4]) ∧ (L 1 = true → u 122 = .slice (some ⟨b5, o5, none⟩) m d5) ∧ (L 2 = true → u 123 = .int .i64 (j : Int)) ∧ (L 3 = true → u 124 = .pointer (some ⟨b5, o5 + j, none⟩)) ∧ (L 4 = true → u 125 = .int .i64 (k : Int)) ∧ (L 5 = true → TuI W wq.heap.size (nxL FC k n4) (u 126)) ∧ (L 6 = true → TuI W wq.heap.size (nxL FC k n4) (u 120)) ∧ (L 7 = true → OwnI W wq.heap.size (u 127) (nxL FC k n4)) ∧ (L 8 = true → u 128 = .int .i64 0) ∧ (L 9 = true → OwnI W wq.heap.size (u 11) (nxL FC k n4)) ∧ (L 10 = true → u 12 = .int .i64 0)) (by kernel_rfl) (by kernel_rfl) 11 rfl ?h0r2 ?stepr2 ?finr2
                case hFr2 => intro u; simp only [putAll, Act.put, List.setIfInBounds_toArray, List.set]; exact rfl
                case h0r2 => intro L u hL; exact ⟨(Below.refl _ _).drew, (fun h => by simp [hL] at h), (fun h => by simp [hL] at h), (fun h => by simp [hL] at h), (fun h => by simp [hL] at h), (fun h => by simp [hL] at h), (fun h => by simp [hL] at h), (fun h => by simp [hL] at h), (fun h => by simp [hL] at h), (fun h => by simp [hL] at h), (fun h => by simp [hL] at h), (fun h => by simp [hL] at h)⟩
                case stepr2 =>
                  refine ops_all (ops_cons ?s0r2 (ops_cons ?s1r2 (ops_cons ?s2r2 (ops_cons ?s3r2 (ops_cons ?s4r2 (ops_cons ?s5r2 (ops_cons ?s6r2 (ops_cons ?s7r2 (ops_cons ?s8r2 (ops_cons ?s9r2 (ops_cons ?s10r2 (ops_nil))))))))))))
                  case s0r2 =>
                    rintro L u W ⟨hB, c0, c1, c2, c3, c4, c5, c6, c7, c8, c9, c10⟩ hf hd K hK
                    dsimp only at hK
                    have t0 := (kq.out.keep hB).cell (i := 0) rfl
                    have t1 := (kq.out.keep hB).cell (i := 1) rfl
                    have t2 := (kq.out.keep hB).cell (i := 2) rfl
                    have t3 := (kq.out.keep hB).cell (i := 3) rfl
                    clear hd
                    go_simp
                    refine hK _ _ ?_ (fun h => by cases h)
                    intro s hs
                    cases hs
                    exact ⟨hB, (fun _ => rfl), c1, c2, c3, c4, c5, c6, c7, c8, c9, c10⟩
                  case s1r2 =>
                    rintro L u W ⟨hB, c0, c1, c2, c3, c4, c5, c6, c7, c8, c9, c10⟩ hf hd K hK
                    dsimp only at hK
                    clear hd
                    go_simp
                    refine hK _ _ ?_ (fun h => by cases h)
                    intro s hs
                    cases hs
                    exact ⟨hB, c0, (fun _ => rfl), c2, c3, c4, c5, c6, c7, c8, c9, c10⟩
                  case s2r2 =>
                    rintro L u W ⟨hB, c0, c1, c2, c3, c4, c5, c6, c7, c8, c9, c10⟩ hf hd K hK
                    dsimp only at hK
                    clear hd
                    go_simp
                    refine hK _ _ ?_ (fun h => by cases h)
                    intro s hs
                    cases hs
                    exact ⟨hB, c0, c1, (fun _ => rfl), c3, c4, c5, c6, c7, c8, c9, c10⟩
                  case s3r2 =>
                    rintro L u W ⟨hB, c0, c1, c2, c3, c4, c5, c6, c7, c8, c9, c10⟩ hf hd K hK
                    dsimp only at hK
                    have hd1 : L 1 = true := (by first | (refine hd ⟨1, .data⟩ ?_ rfl; simp; done) | (refine hd ⟨1, .guard⟩ ?_ rfl; simp; done) | (refine hd ⟨1, .phase⟩ ?_ rfl; simp; done) | (refine hd ⟨1, .chain⟩ ?_ rfl; simp; done))
                    have hd2 : L 2 = true := (by first | (refine hd ⟨2, .data⟩ ?_ rfl; simp; done) | (refine hd ⟨2, .guard⟩ ?_ rfl; simp; done) | (refine hd ⟨2, .phase⟩ ?_ rfl; simp; done) | (refine hd ⟨2, .chain⟩ ?_ rfl; simp; done))
                    have e1 := c1 hd1
                    rw [e1] at hK
                    have e2 := c2 hd2
                    rw [e2] at hK
                    clear hd1
                    clear hd2
                    clear hd
                    go_simp
                    refine hK _ _ ?_ (fun h => by cases h)
                    intro s hs
                    cases hs
                    exact ⟨hB, c0, c1, c2, (fun _ => rfl), c4, c5, c6, c7, c8, c9, c10⟩
                  case s4r2 =>
                    rintro L u W ⟨hB, c0, c1, c2, c3, c4, c5, c6, c7, c8, c9, c10⟩ hf hd K hK
                    dsimp only at hK
                    have hd3 : L 3 = true := (by first | (refine hd ⟨3, .data⟩ ?_ rfl; simp; done) | (refine hd ⟨3, .guard⟩ ?_ rfl; simp; done) | (refine hd ⟨3, .phase⟩ ?_ rfl; simp; done) | (refine hd ⟨3, .chain⟩ ?_ rfl; simp; done))
                    have e3 := c3 hd3
                    rw [e3] at hK
                    have t0 := keepc hB sq
                    clear hd3
                    clear hd
                    go_simp
                    refine hK _ _ ?_ (fun h => by cases h)
                    intro s hs
                    cases hs
                    exact ⟨hB, c0, c1, c2, c3, (fun _ => rfl), c5, c6, c7, c8, c9, c10⟩
                  case s5r2 =>
                    rintro L u W ⟨hB, c0, c1, c2, c3, c4, c5, c6, c7, c8, c9, c10⟩ hf hd K hK
                    dsimp only at hK
                    have hd0 : L 0 = true := (by first | (refine hd ⟨0, .data⟩ ?_ rfl; simp; done) | (refine hd ⟨0, .guard⟩ ?_ rfl; simp; done) | (refine hd ⟨0, .phase⟩ ?_ rfl; simp; done) | (refine hd ⟨0, .chain⟩ ?_ rfl; simp; done))
                    have hd4 : L 4 = true := (by first | (refine hd ⟨4, .data⟩ ?_ rfl; simp; done) | (refine hd ⟨4, .guard⟩ ?_ rfl; simp; done) | (refine hd ⟨4, .phase⟩ ?_ rfl; simp; done) | (refine hd ⟨4, .chain⟩ ?_ rfl; simp; done))
                    have e0 := c0 hd0
                    rw [e0] at hK
                    have e4 := c4 hd4
                    rw [e4] at hK
                    clear hd0
                    clear hd4
                    clear hd
                    go_simp
                    go_wp2_with (go_at_call 13; ((with_reducible refine (NX2.out k hk4 _ (HQ.out.trans (hB.mono HQ.out.size))).mono ?_); rintro e w5 ⟨⟨v9, rfl, q0⟩, hb⟩))
                    have q : TuI w5 wq.heap.size (nxL FC k n4) (.tuple #[v9, .int .i64 0]) := ⟨_, rfl, ownI_mono q0 hB.size⟩
                    refine hK _ _ ?_ (fun h => by cases h)
                    intro s hs
                    cases hs
                    exact ⟨hB.trans (hb.mono hB.size), c0, c1, c2, c3, c4, (fun _ => q), (fun h => (c6 h).keep hb), (fun h => (c7 h).keep hb), c8, (fun h => (c9 h).keep hb), c10⟩
                  case s6r2 =>
                    rintro L u W ⟨hB, c0, c1, c2, c3, c4, c5, c6, c7, c8, c9, c10⟩ hf hd K hK
                    dsimp only at hK
                    have hd5 : L 5 = true := (by first | (refine hd ⟨5, .data⟩ ?_ rfl; simp; done) | (refine hd ⟨5, .guard⟩ ?_ rfl; simp; done) | (refine hd ⟨5, .phase⟩ ?_ rfl; simp; done) | (refine hd ⟨5, .chain⟩ ?_ rfl; simp; done))
                    have e5 := c5 hd5
                    obtain ⟨v, ev, ov⟩ := e5
                    rw [ev] at hK
                    have q : TuI W wq.heap.size (nxL FC k n4) (.tuple #[v, .int .i64 0]) := ⟨_, rfl, ov⟩
                    clear hd5
                    clear hd
                    go_simp
                    refine hK _ _ ?_ (fun h => by cases h)
                    intro s hs
                    cases hs
                    exact ⟨hB, c0, c1, c2, c3, c4, c5, (fun _ => q), c7, c8, c9, c10⟩
                  case s7r2 =>
                    rintro L u W ⟨hB, c0, c1, c2, c3, c4, c5, c6, c7, c8, c9, c10⟩ hf hd K hK
                    dsimp only at hK
                    have hd6 : L 6 = true := (by first | (refine hd ⟨6, .data⟩ ?_ rfl; simp; done) | (refine hd ⟨6, .guard⟩ ?_ rfl; simp; done) | (refine hd ⟨6, .phase⟩ ?_ rfl; simp; done) | (refine hd ⟨6, .chain⟩ ?_ rfl; simp; done))
                    have e6 := c6 hd6
                    obtain ⟨v, ev, ov⟩ := e6
                    rw [ev] at hK
                    have q : OwnI W wq.heap.size v (nxL FC k n4) := ov
                    clear hd6
                    clear hd
                    go_simp
                    refine hK _ _ ?_ (fun h => by cases h)
                    intro s hs
                    cases hs
                    exact ⟨hB, c0, c1, c2, c3, c4, c5, c6, (fun _ => q), c8, c9, c10⟩
                  case s8r2 =>
                    rintro L u W ⟨hB, c0, c1, c2, c3, c4, c5, c6, c7, c8, c9, c10⟩ hf hd K hK
                    dsimp only at hK
                    have hd6 : L 6 = true := (by first | (refine hd ⟨6, .data⟩ ?_ rfl; simp; done) | (refine hd ⟨6, .guard⟩ ?_ rfl; simp; done) | (refine hd ⟨6, .phase⟩ ?_ rfl; simp; done) | (refine hd ⟨6, .chain⟩ ?_ rfl; simp; done))
                    have e6 := c6 hd6
                    obtain ⟨v, ev, ov⟩ := e6
                    rw [ev] at hK
                    clear hd6
                    clear hd
                    go_simp
                    refine hK _ _ ?_ (fun h => by cases h)
                    intro s hs
                    cases hs
                    exact ⟨hB, c0, c1, c2, c3, c4, c5, c6, c7, (fun _ => rfl), c9, c10⟩
                  case s9r2 =>
                    rintro L u W ⟨hB, c0, c1, c2, c3, c4, c5, c6, c7, c8, c9, c10⟩ hf hd K hK
                    dsimp only at hK
                    have hd7 : L 7 = true := (by first | (refine hd ⟨7, .data⟩ ?_ rfl; simp; done) | (refine hd ⟨7, .guard⟩ ?_ rfl; simp; done) | (refine hd ⟨7, .phase⟩ ?_ rfl; simp; done) | (refine hd ⟨7, .chain⟩ ?_ rfl; simp; done))
                    have e7 := c7 hd7
                    have q := e7
                    clear hd7
                    clear hd
                    go_simp
                    refine hK _ _ ?_ (fun h => by cases h)
                    intro s hs
                    cases hs
                    exact ⟨hB, c0, c1, c2, c3, c4, c5, c6, c7, c8, (fun _ => q), c10⟩
                  case s10r2 =>
                    rintro L u W ⟨hB, c0, c1, c2, c3, c4, c5, c6, c7, c8, c9, c10⟩ hf hd K hK
                    dsimp only at hK
                    have hd8 : L 8 = true := (by first | (refine hd ⟨8, .data⟩ ?_ rfl; simp; done) | (refine hd ⟨8, .guard⟩ ?_ rfl; simp; done) | (refine hd ⟨8, .phase⟩ ?_ rfl; simp; done) | (refine hd ⟨8, .chain⟩ ?_ rfl; simp; done))
                    have e8 := c8 hd8
                    rw [e8] at hK
                    clear hd8
                    clear hd
                    go_simp
                    refine hK _ _ ?_ (fun h => by cases h)
                    intro s hs
                    cases hs
                    exact ⟨hB, c0, c1, c2, c3, c4, c5, c6, c7, c8, c9, (fun _ => rfl)⟩
                case finr2 =>
                  rintro L u W hL ⟨hB, c0, c1, c2, c3, c4, c5, c6, c7, c8, c9, c10⟩
                  have e0 := c0 (hL 0 (by decide))
                  have e1 := c1 (hL 1 (by decide))
                  have e2 := c2 (hL 2 (by decide))
                  have e3 := c3 (hL 3 (by decide))
                  have e4 := c4 (hL 4 (by decide))
                  have kq5 := c5 (hL 5 (by decide))
                  have kq6 := c6 (hL 6 (by decide))
                  have kq7 := c7 (hL 7 (by decide))
                  have e8 := c8 (hL 8 (by decide))
                  have kq9 := c9 (hL 9 (by decide))
                  have e10 := c10 (hL 10 (by decide))
                  clear hL c0 c1 c2 c3 c4 c5 c6 c7 c8 c9 c10
                  try simp only [e0, e1, e2, e3, e4, e8, e10]
                  clear e0 e1 e2 e3 e4 e8 e10
                  generalize u 11 = uB at *
                  generalize u 120 = uC at *
                  generalize u 126 = uD at *
                  generalize u 127 = uE at *
                  obtain ⟨aB, dB, rfl, -, -, mB, RB⟩ := rowI_of_own kq9
                  clear kq5 kq6 kq7 kq9
                  have lenb : (nxL FC k n4).length ≤ n4 := nxL_len FC k n4
                  have IN := lin_list aB (nxL FC k n4).length dB (nxL FC k n4) (i : Int) W RB (by omega)
                  rw [show inB (nxL FC k n4) (i : Int) = true from decide_eq_true (nx_mem.2 ⟨i, hlt, rfl, by rw [nxB_symm]; exact NXK.out⟩)] at IN
                  have SHE : sdB (eaL FC n4 n1 n1) (i : Int) (k : Int) = true := decide_eq_true (ea_share hlt hk4 (RNG.out i hlt) NXK.out)
                  have sW := keepc hB sq
                  replace CQ := Lib.hid (CQ.out.trans (hB.mono CQ.out.size))
                  replace BQ := Lib.hid (BQ.out.trans (hB.mono BQ.out.size))
                  clear RB sq hB HQ HB HB0 HB5
                  go_wp2_with fail
                  ((with_reducible refine IN.mono ?_); rintro e w7 ⟨rfl, hb7⟩)
                  replace sW := keepc hb7 sW
                  replace CQ := Lib.hid (CQ.out.trans (hb7.mono CQ.out.size))
                  replace BQ := Lib.hid (BQ.out.trans (hb7.mono BQ.out.size))
                  have SH := lshared_edges a3 k3 d3 (eaL FC n4 n1 n1) (i : Int) (k : Int) w7 (R3.out.keep BQ.out) l3
                  rw [SHE] at SH
                  clear hb7 IN SHE
                  go_wp2_with fail
                  ((with_reducible refine SH.mono ?_); rintro e w8 ⟨rfl, hb8⟩)
                  replace CQ := Lib.hid (CQ.out.trans (hb8.mono CQ.out.size))
                  clear hb8 SH sW
                  go_wp2
                  go_roundw
                  case rel => exact ⟨j + 1, by go_num, hjm, CQ.out⟩
                  case measure => simp [intOf]; omega
            · obtain rfl : j = m := by omega
              go_wp2
              go_roundw
              case rel => exact ⟨i + 1, by go_num, hlt, BF.out⟩
              case measure => simp [intOf]; omega
        · obtain rfl : i = n4 := by omega
          go_wp2_with fail
          (((with_reducible refine (ED.out _).mono ?_); rintro e w9 ⟨rfl, hb9⟩); replace HB := Lib.hid (HB.out.trans (hb9.mono HB.out.size)); clear hb9)
          go_wp2
          go_ret
          exact ⟨rfl, HB.out⟩
end Go.Proofs.Ytkheomaihhcokaa
