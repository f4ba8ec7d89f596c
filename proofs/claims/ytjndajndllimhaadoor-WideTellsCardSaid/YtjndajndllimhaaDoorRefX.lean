/-
  The reference's Div: its walk.
-/
import Derived.Test.YtjndajndllimhaaDoorRefW
namespace Go.Proofs.YtjndajndllimhaaDoor
open Go.RowKit

theorem noInt_num {W : World} {g : Nat} {x : Bool} {p : Option Addr} {q r : Nat} (h : Lok W g 51 #[.bool x, .slice p q r]) : NoInt W g := fun k v e => by
  unfold Lok at h
  simp [World.cell?, h] at e
  rcases k with _ | _ | k <;> simp at e
theorem noInt_set0 {W : World} {g : Nat} {x : Bool} {p : Option Addr} {q r : Nat} (h : Lok W g 51 #[.bool x, .slice p q r]) (z : Bool) : NoInt (W.setCell ⟨g, 0, none⟩ (.bool z)) g := (noInt_num h).set (fun _ e => by cases e) ⟨_, h.cell (i := 0) rfl⟩
theorem num_le {W : World} {s : Bool} {a : Option Addr} {n c : Nat} {N : Int} (h : NumV W (.agg #[.bool s, .slice a n c]) N) (hs : Small N) : n ≤ 100 := by
  obtain ⟨a', m, c', D, e, _, _, da, ta, ea⟩ := h
  cases e
  exact num_small da ta ea hs
set_option maxRecDepth 100000 in
set_option maxHeartbeats 1000000 in
theorem rdiv_no (hi lo n : Int) (w : World) (h : ¬ (Rt hi lo ∧ Dv n)) :
    Calls Tryd.prog 19 #[.agg #[.int .i64 hi, .int .i64 lo], .int .i64 n] w fun e w' => e = .returned (.tuple #[.agg #[.int .i64 0, .int .i64 0], .int .i64 0, .int .i64 1]) ∧ Below w.heap.size w w' := by
  have I := Lib.hid (fun W => ris_any hi lo W)
  have H : (isB hi lo = false) ∨ (isB hi lo = true ∧ (n < 1 ∨ (1 ≤ n ∧ 1000000000 < n))) := by
    by_cases k : Rt hi lo
    · exact .inr ⟨decide_eq_true k, by unfold Dv at h; simp only [k, true_and] at h; omega⟩
    · exact .inl (decide_eq_false k)
  clear h
  generalize isB hi lo = b at *
  rcases H with rfl | ⟨rfl, H⟩
  · go_enter Tryd.func19, Tryd.ntmps19
    go_upto_region 1 with fail
    have hb0 := below_new1 w (.cells #[.int .i64 hi, .int .i64 lo] 24)
    have z0 : (w.alloc (.cells #[.int .i64 hi, .int .i64 lo] 24)).heap.size = w.heap.size + 1 := by simp
    have HB := Lib.hid hb0
    have k0 := Lib.hid (Lok.new w 24 #[.int .i64 hi, .int .i64 lo])
    clear hb0
    generalize w.alloc (.cells #[.int .i64 hi, .int .i64 lo] 24) = V0 at *
    have hb1 := below_new1 V0 (.cells #[.int .i64 0, .int .i64 0] 24)
    replace k0 := Lib.hid (k0.out.keep hb1)
    have z1 : (V0.alloc (.cells #[.int .i64 0, .int .i64 0] 24)).heap.size = V0.heap.size + 1 := by simp
    replace HB := Lib.hid (HB.out.trans (hb1.mono HB.out.size))
    have k1 := Lib.hid (Lok.new V0 24 #[.int .i64 0, .int .i64 0])
    clear hb1
    generalize V0.alloc (.cells #[.int .i64 0, .int .i64 0] 24) = V1 at *
    rw [z0] at k1
    have p0 := k0.out.cell (i := 0) rfl
    have p1 := k0.out.cell (i := 1) rfl
    clear z0 z1
    go_wp2_with fail
    (((with_reducible refine (I.out _).mono ?_); rintro e w2 ⟨rfl, hb2⟩); replace HB := Lib.hid (HB.out.trans (hb2.mono HB.out.size)); replace k1 := Lib.hid (k1.out.keep hb2); clear hb2)
    clear p0 p1
    have q0 := k1.out.cell (i := 0) rfl
    have q1 := k1.out.cell (i := 1) rfl
    have f0 := k1.out.frozen 0
    have f1 := k1.out.frozen 1
    go_wp2
    exact bodyPost_ret (v := .tuple #[.agg #[.int .i64 0, .int .i64 0], .int .i64 0, .int .i64 1]) (by simp [results, Tryd.results19, go_sem, q0, q1]) rfl ⟨rfl, (HB.out.setCell (by simp) _).setCell (by simp) _⟩
  · rcases H with H | ⟨H0, H⟩
    all_goals
      go_enter Tryd.func19, Tryd.ntmps19
      go_upto_region 1 with fail
      have hb0 := below_new1 w (.cells #[.int .i64 hi, .int .i64 lo] 24)
      have z0 : (w.alloc (.cells #[.int .i64 hi, .int .i64 lo] 24)).heap.size = w.heap.size + 1 := by simp
      have HB := Lib.hid hb0
      have k0 := Lib.hid (Lok.new w 24 #[.int .i64 hi, .int .i64 lo])
      clear hb0
      generalize w.alloc (.cells #[.int .i64 hi, .int .i64 lo] 24) = V0 at *
      have hb1 := below_new1 V0 (.cells #[.int .i64 0, .int .i64 0] 24)
      replace k0 := Lib.hid (k0.out.keep hb1)
      have z1 : (V0.alloc (.cells #[.int .i64 0, .int .i64 0] 24)).heap.size = V0.heap.size + 1 := by simp
      replace HB := Lib.hid (HB.out.trans (hb1.mono HB.out.size))
      have k1 := Lib.hid (Lok.new V0 24 #[.int .i64 0, .int .i64 0])
      clear hb1
      generalize V0.alloc (.cells #[.int .i64 0, .int .i64 0] 24) = V1 at *
      rw [z0] at k1
      have p0 := k0.out.cell (i := 0) rfl
      have p1 := k0.out.cell (i := 1) rfl
      clear z0 z1
      go_wp2_with fail
      (((with_reducible refine (I.out _).mono ?_); rintro e w2 ⟨rfl, hb2⟩); replace HB := Lib.hid (HB.out.trans (hb2.mono HB.out.size)); replace k1 := Lib.hid (k1.out.keep hb2); clear hb2)
      clear p0 p1
      have q0 := k1.out.cell (i := 0) rfl
      have q1 := k1.out.cell (i := 1) rfl
      have f0 := k1.out.frozen 0
      have f1 := k1.out.frozen 1
      go_wp2
      exact bodyPost_ret (v := .tuple #[.agg #[.int .i64 0, .int .i64 0], .int .i64 0, .int .i64 1]) (by simp [results, Tryd.results19, go_sem, q0, q1]) rfl ⟨rfl, (HB.out.setCell (by simp) _).setCell (by simp) _⟩

theorem dv_rt {hi lo n : Int} (h : Rt hi lo) (hn : Dv n) : Rt (dvH hi n) (dvL hi lo n) := by
  obtain ⟨l0, l1, x0, x1⟩ := h
  obtain ⟨n1, n2⟩ := hn
  have q0 := Int.emod_nonneg hi (b := n) (by omega)
  have q1 := Int.emod_lt_of_pos hi (b := n) (by omega)
  have d0 : 0 ≤ (hi % n * 1000000000000000000 + lo) / n := Int.ediv_nonneg (by omega) (by omega)
  have d1 : (hi % n * 1000000000000000000 + lo) / n < 1000000000000000000 := Int.ediv_lt_of_lt_mul (by omega) (by omega)
  have h0 : -4000000000000000000 ≤ hi / n := (Int.le_ediv_iff_mul_le (by omega)).2 (by have : 4000000000000000000 * 1 ≤ 4000000000000000000 * n := Int.mul_le_mul_of_nonneg_left n1 (by omega); omega)
  have h1 : hi / n < 4000000000000000001 := (Int.ediv_lt_iff_lt_mul (by omega)).2 (by have : 4000000000000000001 * 1 ≤ 4000000000000000001 * n := Int.mul_le_mul_of_nonneg_left n1 (by omega); omega)
  exact ⟨d0, d1, h0, by unfold dvH; omega⟩
set_option maxRecDepth 100000 in
set_option maxHeartbeats 8000000 in
theorem rdiv_ok (hi lo n : Int) (w : World) (h : Rt hi lo) (hn : Dv n) :
    Calls Tryd.prog 19 #[.agg #[.int .i64 hi, .int .i64 lo], .int .i64 n] w fun e w' => e = .returned (.tuple #[.agg #[.int .i64 (dvH hi n), .int .i64 (dvL hi lo n)], .int .i64 (dvR hi lo n), .int .i64 0]) ∧ Below w.heap.size w w' := by
  obtain ⟨i0, hi', hz0, hz1, hz2⟩ := info_parts infoI
  have I := Lib.hid (fun W => ris_yes hi lo W h)
  have NN := Lib.hid (fun W => number_any hi lo W h)
  have DP := Lib.hid (div_parts hi lo n h hn.1)
  have SN := Lib.hid (show Small (hi * 1000000000000000000 + lo) from small_of (by unfold Rt at h; omega))
  have DN := Lib.hid hn
  have FT : Hid (fits ((hi * 1000000000000000000 + lo) / n) = true) := Lib.hid (by
    obtain ⟨e1, e2, _⟩ := DP.out
    unfold fits isB
    rw [e1, e2]
    exact decide_eq_true (dv_rt h hn))
  have SQ : Hid (Small ((hi * 1000000000000000000 + lo) / n)) := Lib.hid (by
    obtain ⟨e1, e2, _⟩ := DP.out
    have r := dv_rt h hn
    unfold Rt at r
    exact small_of (by omega))
  have d1 : decide (n < 1) = false := decide_eq_false (by have := hn.1; omega)
  have d2 : decide (1000000000 < n) = false := decide_eq_false (by have := hn.2; omega)
  clear h hn
  generalize hi * 1000000000000000000 + lo = N at *
  go_enter Tryd.func19, Tryd.ntmps19
  go_upto_region 1 with fail
  have hb0 := below_new1 w (.cells #[.int .i64 hi, .int .i64 lo] 24)
  have z0 : (w.alloc (.cells #[.int .i64 hi, .int .i64 lo] 24)).heap.size = w.heap.size + 1 := by simp
  have HB := Lib.hid hb0
  have k0 := Lib.hid (Lok.new w 24 #[.int .i64 hi, .int .i64 lo])
  clear hb0
  generalize w.alloc (.cells #[.int .i64 hi, .int .i64 lo] 24) = V0 at *
  have hb1 := below_new1 V0 (.cells #[.int .i64 0, .int .i64 0] 24)
  replace k0 := Lib.hid (k0.out.keep hb1)
  have z1 : (V0.alloc (.cells #[.int .i64 0, .int .i64 0] 24)).heap.size = V0.heap.size + 1 := by simp
  replace HB := Lib.hid (HB.out.trans (hb1.mono HB.out.size))
  have k1 := Lib.hid (Lok.new V0 24 #[.int .i64 0, .int .i64 0])
  clear hb1
  generalize V0.alloc (.cells #[.int .i64 0, .int .i64 0] 24) = V1 at *
  rw [z0] at k1
  have p0 := k0.out.cell (i := 0) rfl
  have p1 := k0.out.cell (i := 1) rfl
  clear z0 z1
  go_wp2_with fail
  (((with_reducible refine (I.out _).mono ?_); rintro e w2 ⟨rfl, hb2⟩); replace HB := Lib.hid (HB.out.trans (hb2.mono HB.out.size)); replace k0 := Lib.hid (k0.out.keep hb2); replace k1 := Lib.hid (k1.out.keep hb2); clear hb2)
  clear p0 p1
  have p0 := k0.out.cell (i := 0) rfl
  have p1 := k0.out.cell (i := 1) rfl
  go_wp2_with fail
  clear p0 p1
  ((with_reducible refine (NN.out _).mono ?_); rintro e w3 ⟨hb3, v3, rfl, q3⟩)
  replace HB := Lib.hid (HB.out.trans (hb3.mono HB.out.size))
  replace k0 := Lib.hid (k0.out.keep hb3)
  replace k1 := Lib.hid (k1.out.keep hb3)
  obtain ⟨s3, a3, n3, c3, rfl⟩ := num_open q3
  have Q3 := Lib.hid q3
  clear hb3 q3
  have hn3 := num_le Q3.out SN.out
  go_wp2_with fail
  skip
  have hb3 := below_new1 w3 (.cells #[.bool s3, .slice a3 n3 c3] 51)
  replace HB := Lib.hid (HB.out.trans (hb3.mono HB.out.size))
  replace k0 := Lib.hid (k0.out.keep hb3)
  replace k1 := Lib.hid (k1.out.keep hb3)
  replace Q3 := Lib.hid (Q3.out.keep hb3)
  have k3 := Lib.hid (Lok.new w3 51 #[.bool s3, .slice a3 n3 c3])
  clear hb3
  generalize w3.alloc (.cells #[.bool s3, .slice a3 n3 c3] 51) = V3 at *
  generalize w3.heap.size = g3 at *
  obtain ⟨a', m, c', D, e, ra, hc, da, ta, ea⟩ := Q3.out
  cases e
  have RA := Lib.hid ra
  have HD := Lib.hid da
  have EA := Lib.hid ea
  have QS := Lib.hid (fun j (q : j < n3) => quo_step (D := D) DN.out.1 q)
  clear ra da ta ea d1 d2 Q3
  go_loopw [8, 9, 10] (fun v lf ix wr => ∃ k : Nat, k ≤ n3 ∧ ix = .int .i64 ((k : Int) - 1) ∧ lf = .int .i64 (topD D n3 k % n) ∧ wr.ownsRow V3.heap.size 3 1 v (n3 - k) (upto (fun t => quoD D n3 n (n3 - 1 - t)) (n3 - k)) ∧ Below V3.heap.size V3 wr) (fun _ _ ix _ => (intOf ix + 1).toNat)
  case atStart => exact ⟨n3, Nat.le_refl _, rfl, by rw [show topD D n3 n3 = 0 from by unfold topD; rw [Nat.sub_self]; rfl]; simp, by rw [Nat.sub_self]; exact World.ownsRow_nil _ _ _ _, Below.refl _ _⟩
  case round =>
    obtain ⟨k, hk, rfl, rfl, hown, hB⟩ := hrel
    have hz : V3.heap.size ≤ wr.heap.size := hB.size
    replace HB := Lib.hid (HB.out.trans (hB.mono HB.out.size))
    replace k0 := Lib.hid (k0.out.keep hB)
    replace k1 := Lib.hid (k1.out.keep hB)
    replace k3 := Lib.hid (k3.out.keep hB)
    have RB := Lib.hid (RA.out.keep hB)
    have HR := Lib.hid hB
    have HO := Lib.hid hown
    clear hB hown
    rcases Nat.eq_zero_or_pos k with z | z
    · subst z
      rw [show ((0 : Nat) : Int) - 1 = -1 from rfl]
      obtain ⟨V4, rfl⟩ : ∃ V4, V4 = wr := ⟨_, rfl⟩
      have hown := HO.out
      rw [Nat.sub_zero] at hown
      obtain ⟨x, y, rfl, hrow, hcy, _⟩ := row_of_own hown
      have RR := Lib.hid hrow
      clear hown hrow HO HR QS RB RA
      have hl0 : topD D n3 0 = N.natAbs := by unfold topD; rw [Nat.sub_zero]; exact EA.out
      rw [hl0]
      have l0 := Int.emod_nonneg (N.natAbs : Int) (b := n) (by have := DN.out.1; omega)
      have l1 := Int.emod_lt_of_pos (N.natAbs : Int) (b := n) (by have := DN.out.1; omega)
      have HL0 := Lib.hid hl0
      obtain ⟨lf, elf⟩ : ∃ lf, lf = (N.natAbs : Int) % n := ⟨_, rfl⟩
      rw [← elf] at l0 l1 ⊢
      have HLF := Lib.hid elf
      clear hl0 elf hk hz
      go_wp2_with fail
      go_loopw [11, 12] (fun v ix wv => ∃ k : Nat, k ≤ n3 ∧ ix = .int .i64 ((k : Int) - 1) ∧ wv.ownsRow V4.heap.size 3 1 v (n3 - k) (upto (quoD D n3 n) (n3 - k)) ∧ Below V4.heap.size V4 wv) (fun _ ix _ => (intOf ix + 1).toNat)
      case atStart => exact ⟨n3, Nat.le_refl _, rfl, by rw [Nat.sub_self]; exact World.ownsRow_nil _ _ _ _, Below.refl _ _⟩
      case round =>
        obtain ⟨k, hk, rfl, hown, hB⟩ := hrel
        have hz : V4.heap.size ≤ wr.heap.size := hB.size
        replace HB := Lib.hid (HB.out.trans (hB.mono HB.out.size))
        replace k0 := Lib.hid (k0.out.keep hB)
        replace k1 := Lib.hid (k1.out.keep hB)
        replace k3 := Lib.hid (k3.out.keep hB)
        have RB := Lib.hid (RR.out.keep hB)
        have HR := Lib.hid hB
        have HO := Lib.hid hown
        clear hB hown
        rcases Nat.eq_zero_or_pos k with z | z
        · subst z
          rw [show ((0 : Nat) : Int) - 1 = -1 from rfl]
          obtain ⟨V5, rfl⟩ : ∃ V5, V5 = wr := ⟨_, rfl⟩
          have hown := HO.out
          rw [Nat.sub_zero] at hown
          obtain ⟨x2, y2, rfl, hrow, hcy2, _⟩ := row_of_own hown
          have RR := Lib.hid hrow
          clear hown hrow HO HR RB hk hz
          have HM : Hid (vs (quoD D n3 n) 0 n3 = (N.natAbs : Int) / n) := Lib.hid (by rw [quo_vs D n3 n n3 0 (by omega), HL0.out])
          have FA := Lib.hid (floor_neg (N.natAbs : Int) n DN.out.1)
          by_cases hs : N < 0
          · have hN : N = -(N.natAbs : Int) := by omega
            rw [decide_eq_true hs] at k3
            by_cases hl : 0 < lf
            · have QD : Hid (N / n / 1000000000000000000 = dvH hi n ∧ N / n % 1000000000000000000 = dvL hi lo n ∧ n - lf = dvR hi lo n) := Lib.hid ⟨DP.out.1, DP.out.2.1, by
                have z := (FA.out.2 (by rw [← HLF.out]; exact hl)).2
                rw [← hN, ← HLF.out] at z
                rw [← DP.out.2.2, z]⟩
              have NQ : Hid (-(vs (quoD D n3 n) 0 n3) = -((N.natAbs : Int) / n)) := Lib.hid (by rw [HM.out])
              have NS : Hid (-((N.natAbs : Int) / n) + -1 = N / n) := Lib.hid (by
                have z := (FA.out.2 (by rw [← HLF.out]; exact hl)).1
                rw [← hN] at z
                rw [z]; omega)
              have SM : Hid (Small (-((N.natAbs : Int) / n))) := Lib.hid (by
                have a := SQ.out
                have b := NS.out
                unfold Small at a ⊢
                have c := Int.ediv_nonneg (a := (N.natAbs : Int)) (b := n) (by omega) (by omega)
                omega)
              have OM := Lib.hid (fun W => ofInt_any (-1) W (by omega) (by omega))
              have S1 : Hid (Small (-1)) := Lib.hid (small_of (by omega))
              have g1 : -9223372036854775808 ≤ n - lf := by omega
              have g2 : n - lf ≤ 9223372036854775807 := by have : n ≤ 1000000000 := DN.out.2; omega
              clear hs hN l0 l1
              obtain ⟨t, l, T, QT⟩ : ∃ (t : Bool) (l : Nat), (Calls Tryd.prog 36 #[.bool true, .slice x2 n3 y2] V5 fun e w' => e = .returned (.agg #[.bool t, .slice x2 l y2]) ∧ Below V5.heap.size V5 w') ∧ NumV V5 (.agg #[.bool t, .slice x2 l y2]) (-((N.natAbs : Int) / n)) := ⟨_, _, trim_any _ _ _ _ _ _ RR.out hcy2, by
                have q := num_of_trim (s := true) RR.out hcy2 (quo_dg DN.out.1 HD.out)
                simp only [if_true] at q
                rw [NQ.out] at q
                exact q⟩
              have TT := Lib.hid T
              have Q6 := Lib.hid QT
              clear T QT
              have p0 := k3.out.cell (i := 0) rfl
              go_wp2_with fail
              ((with_reducible refine (TT.out).mono ?_); rintro e w6 ⟨rfl, hb6⟩)
              replace HB := Lib.hid (HB.out.trans (hb6.mono HB.out.size))
              replace k0 := Lib.hid (k0.out.keep hb6)
              replace k1 := Lib.hid (k1.out.keep hb6)
              replace k3 := Lib.hid (k3.out.keep hb6)
              replace Q6 := Lib.hid (Q6.out.keep hb6)
              clear hb6
              have p1 := keepa (o := .cells #[.bool t, .slice x2 l y2] 51) (k3.out.cell (i := 0) rfl); have hk1' : w.heap.size + 1 < w6.heap.size := k1.out.lt
              go_wp2_with fail
              clear p0 p1
              have hb6 := below_new1 w6 (.cells #[.bool t, .slice x2 l y2] 51)
              replace HB := Lib.hid (HB.out.trans (hb6.mono HB.out.size))
              replace k0 := Lib.hid (k0.out.keep hb6)
              replace k1 := Lib.hid (k1.out.keep hb6)
              replace k3 := Lib.hid (k3.out.keep hb6)
              replace Q6 := Lib.hid (Q6.out.keep hb6)
              have k6 := Lib.hid (Lok.new w6 51 #[.bool t, .slice x2 l y2])
              clear hb6
              generalize w6.alloc (.cells #[.bool t, .slice x2 l y2] 51) = V6 at *
              generalize w6.heap.size = g6 at *
              have hbound : g6 ≤ V6.heap.size := Nat.le_of_lt k6.out.lt
              have hk1 : w.heap.size + 1 < g6 := hk1'
              have o3' := k6.out
              have LQ := Q6.out
              refine wp_region_rel (by kernel_rfl) [79, 80, 81] ?Fr1 ?hFr1
                (fun L u W => Below g6 V6 W ∧ (L 0 = true → u 79 = .agg #[.bool t, .slice x2 l y2]) ∧ (L 1 = true → L 2 = false → NumV W (u 80) (-1)) ∧ (L 2 = true → NumV W (u 81) (-((N.natAbs : Int) / n) + -1)) ∧ (L 3 = false → Lok W (g6) 51 #[.bool t, .slice x2 l y2]) ∧ (L 3 = true → (L 0 = true ∧ L 1 = true ∧ L 2 = true) ∧ ∃ (p : Bool) (q : Option Addr) (r s : Nat), u 81 = .agg #[.bool p, .slice q r s] ∧ Lok W (g6) 51 #[.bool p, .slice q r s]) ∧ (L 3 = false → NumV W (.agg #[.bool t, .slice x2 l y2]) (-((N.natAbs : Int) / n)))) (by kernel_rfl) (by kernel_rfl) 4 rfl ?h0r1 ?stepr1 ?finr1
              case hFr1 => intro u; simp only [putAll, Act.put, List.setIfInBounds_toArray, List.set]; exact rfl
              case h0r1 => intro L u hL; exact ⟨(Below.refl _ _).drew, (fun h => by simp [hL] at h), (fun h => by simp [hL] at h), (fun h => by simp [hL] at h), (fun _ => by assumption), (fun h => by simp [hL] at h), (fun _ => by assumption)⟩
              case stepr1 =>
                refine ops_all (ops_cons ?s0r1 (ops_cons ?s1r1 (ops_cons ?s2r1 (ops_cons ?s3r1 (ops_nil)))))
                case s0r1 =>
                  rintro L u W ⟨hB, c0, c1, c2, o3, w3, pre0⟩ hf hd K hK
                  dsimp only at hK
                  have hn3 : L 3 = false := by
                    cases h : L 3 with
                    | false => rfl
                    | true => have z := (w3 h).1; rw [hf] at z; simp at z
                  have t0 := (o3 hn3).cell (i := 0) rfl
                  have t1 := (o3 hn3).cell (i := 1) rfl
                  clear hd
                  go_simp
                  refine hK _ _ ?_ (fun h => by cases h)
                  intro s hs
                  cases hs
                  exact ⟨hB, (fun _ => rfl), c1, c2, o3, (fun h => by have h' := hn3; rw [show L 3 = true from h] at h'; cases h'), pre0⟩
                case s1r1 =>
                  rintro L u W ⟨hB, c0, c1, c2, o3, w3, pre0⟩ hf hd K hK
                  dsimp only at hK
                  have hn3 : L 3 = false := by
                    cases h : L 3 with
                    | false => rfl
                    | true => have z := (w3 h).1; rw [hf] at z; simp at z
                  clear hd
                  go_simp
                  go_wp2_with (go_at_call 30; ((with_reducible refine (OM.out _).mono ?_); rintro e w5 ⟨hb, v5, rfl, q⟩))
                  refine hK _ _ ?_ (fun h => by cases h)
                  intro s hs
                  cases hs
                  exact ⟨hB.trans (hb.mono (Nat.le_trans hbound hB.size)), c0, (fun _ _ => q), (fun h => (c2 h).keep hb), (fun h => (o3 h).keep hb), (fun h => by have h' := hn3; rw [show L 3 = true from h] at h'; cases h'), (fun h => (pre0 h).keep hb)⟩
                case s2r1 =>
                  rintro L u W ⟨hB, c0, c1, c2, o3, w3, pre0⟩ hf hd K hK
                  dsimp only at hK
                  have hn3 : L 3 = false := by
                    cases h : L 3 with
                    | false => rfl
                    | true => have z := (w3 h).1; rw [hf] at z; simp at z
                  have hd0 : L 0 = true := (by first | (refine hd ⟨0, .data⟩ ?_ rfl; simp; done) | (refine hd ⟨0, .guard⟩ ?_ rfl; simp; done) | (refine hd ⟨0, .phase⟩ ?_ rfl; simp; done) | (refine hd ⟨0, .chain⟩ ?_ rfl; simp; done))
                  have hd1 : L 1 = true := (by first | (refine hd ⟨1, .data⟩ ?_ rfl; simp; done) | (refine hd ⟨1, .guard⟩ ?_ rfl; simp; done) | (refine hd ⟨1, .phase⟩ ?_ rfl; simp; done) | (refine hd ⟨1, .chain⟩ ?_ rfl; simp; done))
                  have e0 := c0 hd0
                  rw [e0] at hK
                  have e1 := c1 hd1 (by first | exact hf | assumption)
                  clear hd0
                  clear hd1
                  clear hd
                  go_simp
                  go_wp2_with (go_at_call 31; ((with_reducible refine (sum_any (pre0 hn3) e1 SM.out S1.out).mono ?_); rintro e w5 ⟨hb, v5, rfl, q⟩))
                  refine hK _ _ ?_ (fun h => by cases h)
                  intro s hs
                  cases hs
                  exact ⟨hB.trans (hb.mono (Nat.le_trans hbound hB.size)), c0, (fun _ h => by cases h), (fun _ => q), (fun h => (o3 h).keep hb), (fun h => by have h' := hn3; rw [show L 3 = true from h] at h'; cases h'), (fun h => (pre0 h).keep hb)⟩
                case s3r1 =>
                  rintro L u W ⟨hB, c0, c1, c2, o3, w3, pre0⟩ hf hd K hK
                  dsimp only at hK
                  have hd2 : L 2 = true := (by first | (refine hd ⟨2, .data⟩ ?_ rfl; simp; done) | (refine hd ⟨2, .phase⟩ ?_ rfl; simp; done))
                  have hdx2 : L 2 = true := (by first | (refine hd ⟨2, .phase⟩ ?_ rfl; simp; done) | (refine hd ⟨2, .data⟩ ?_ rfl; simp; done))
                  have hall : L 0 = true ∧ L 1 = true ∧ L 2 = true := ⟨(by first | (refine hd ⟨0, .phase⟩ ?_ rfl; simp; done) | (refine hd ⟨0, .data⟩ ?_ rfl; simp; done)), (by first | (refine hd ⟨1, .phase⟩ ?_ rfl; simp; done) | (refine hd ⟨1, .data⟩ ?_ rfl; simp; done)), (by first | (refine hd ⟨2, .phase⟩ ?_ rfl; simp; done) | (refine hd ⟨2, .data⟩ ?_ rfl; simp; done))⟩
                  have hall' := Lib.hid hall
                  clear hall
                  have k3 := o3 hf
                  have z := c2 hd2
                  obtain ⟨zs, za, zn, zc, e9⟩ := num_open z
                  rw [e9] at hK z
                  have t0 := k3.cell (i := 0) rfl
                  have f0 := k3.frozen 0
                  have t1 := k3.cell (i := 1) rfl
                  have f1 := k3.frozen 1
                  clear hd
                  have hd2' := Lib.hid hd2
                  clear hd2
                  have hdx2' := Lib.hid hdx2
                  clear hdx2
                  go_simp
                  have hd2 := hd2'.out
                  have hdx2 := hdx2'.out
                  have hall := hall'.out
                  have hlok := (k3.set (i := 0) (v := .bool zs)).set (i := 1) (v := .slice za zn zc)
                  have z1 := (z.setN (noInt_num k3) 0 (.bool zs)).setN (noInt_set0 k3 zs) 1 (.slice za zn zc)
                  refine hK undef _ (fun s h => by cases h) (fun _ => ?_)
                  exact ⟨(hB.setCell (Nat.le_refl _) _).setCell (Nat.le_refl _) _, c0, (fun _ h => absurd hdx2 (by rw [show L 2 = false from h]; decide)), (fun _ => z1), (fun h => by cases h), (fun _ => ⟨hall, _, _, _, _, rfl, hlok⟩), (fun h => by cases h)⟩
              case finr1 =>
                rintro L u W hL ⟨hB, c0, c1, c2, o3, w3, pre0⟩
                have e0 := c0 (hL 0 (by decide))
                have kq2 := c2 (hL 2 (by decide))
                obtain ⟨-, p3, q3, r3, s3, ed3, hlok3⟩ := w3 (hL 3 (by decide))
                rw [ed3] at kq2
                clear hL c0 c1 c2 o3 w3 pre0
                try simp only [e0, ed3]
                clear e0 ed3
                have QQ := kq2
                rw [NS.out] at QQ
                replace QQ := Lib.hid QQ
                have hz6 : w.heap.size + 1 < g6 := hk1
                have hbf : w.heap.size ≤ g6 := by omega
                replace HB := Lib.hid (HB.out.trans (hB.mono hbf))
                have k1' : Hid (Lok W (w.heap.size + 1) 24 #[.int .i64 0, .int .i64 0]) := Lib.hid ((hB.block _ hz6).trans k1.out)
                clear k1
                have k1 := k1'
                have c0 := hlok3.cell (i := 0) rfl
                have c1 := hlok3.cell (i := 1) rfl
                clear k1' hB hlok3 kq2 o3' LQ hbound hbf hk1 hz6
                replace HB := HB
                have hzW : w.heap.size ≤ W.heap.size := HB.out.size
                go_wp2_with fail
                clear c0 c1
                ((with_reducible refine (wide_any QQ.out SQ.out).mono ?_); rintro e w7 ⟨hb7, hh, ll, rr, rfl, hw⟩)
                obtain ⟨e1, e2⟩ := hw.2 FT.out
                rw [QD.out.1] at e1
                rw [QD.out.2.1] at e2
                subst e1 e2
                replace HB := Lib.hid (HB.out.trans (hb7.mono HB.out.size))
                replace k1 := Lib.hid (k1.out.keep hb7)
                have hz7 : w.heap.size + 1 < w7.heap.size := k1.out.lt
                have b0 : w7.cell? ⟨w.heap.size + 1, 0, none⟩ = some (.int .i64 0) := k1.out.cell (i := 0) rfl
                have b1 : w7.cell? ⟨w.heap.size + 1, 1, none⟩ = some (.int .i64 0) := k1.out.cell (i := 1) rfl
                have f0 := k1.out.frozen 0
                have f1 := k1.out.frozen 1
                have EL := Lib.hid QD.out.2.2
                clear hb7 hw
                go_wp2
                have kf := ((k1.out.set (i := 0) (v := .int .i64 (dvH hi n))).set (i := 1) (v := .int .i64 (dvL hi lo n))).keep (below_new1 _ (.cells #[.int .i64 (dvH hi n), .int .i64 (dvL hi lo n)] 24))
                have r0 := kf.cell (i := 0) (v := .int .i64 (dvH hi n)) rfl
                have r1 := kf.cell (i := 1) (v := .int .i64 (dvL hi lo n)) rfl
                exact bodyPost_ret (v := .tuple #[.agg #[.int .i64 (dvH hi n), .int .i64 (dvL hi lo n)], .int .i64 (dvR hi lo n), .int .i64 0]) (by simp [results, Tryd.results19, go_sem, r0, r1, EL.out]) rfl ⟨rfl, by have := HB.out; (repeat (first | exact Below.refl _ _ | assumption | refine Below.drew ?_ | refine below_drewN ?_ _ | refine Below.setCell ?_ (by first | omega | (simp; done) | (simp; omega)) _ | refine Below.alloc ?_ (by first | omega | (simp; done) | (simp; omega)) _))⟩
            · have hl0 : lf = 0 := by omega
              have QD : Hid (N / n / 1000000000000000000 = dvH hi n ∧ N / n % 1000000000000000000 = dvL hi lo n ∧ 0 = dvR hi lo n) := Lib.hid ⟨DP.out.1, DP.out.2.1, by rw [← DP.out.2.2, hN, (FA.out.1 (by rw [← HLF.out]; exact hl0)).2]⟩
              have NQ : Hid (-(vs (quoD D n3 n) 0 n3) = N / n) := Lib.hid (by rw [HM.out, hN, (FA.out.1 (by rw [← HLF.out]; exact hl0)).1]; simp)
              subst hl0
              clear hs hN hl l0 l1
              obtain ⟨t, l, T, QT⟩ : ∃ (t : Bool) (l : Nat), (Calls Tryd.prog 36 #[.bool true, .slice x2 n3 y2] V5 fun e w' => e = .returned (.agg #[.bool t, .slice x2 l y2]) ∧ Below V5.heap.size V5 w') ∧ NumV V5 (.agg #[.bool t, .slice x2 l y2]) (N / n) := ⟨_, _, trim_any _ _ _ _ _ _ RR.out hcy2, by
                have q := num_of_trim (s := true) RR.out hcy2 (quo_dg DN.out.1 HD.out)
                simp only [Bool.false_eq_true, if_false, if_true] at q
                rw [NQ.out] at q
                exact q⟩
              have TT := Lib.hid T
              have Q6 := Lib.hid QT
              clear T QT
              have p0 := k3.out.cell (i := 0) rfl
              go_wp2_with fail
              ((with_reducible refine (TT.out).mono ?_); rintro e w6 ⟨rfl, hb6⟩)
              replace HB := Lib.hid (HB.out.trans (hb6.mono HB.out.size))
              replace k0 := Lib.hid (k0.out.keep hb6)
              replace k1 := Lib.hid (k1.out.keep hb6)
              replace k3 := Lib.hid (k3.out.keep hb6)
              replace Q6 := Lib.hid (Q6.out.keep hb6)
              clear hb6
              have p1 := keepa (o := .cells #[.bool t, .slice x2 l y2] 51) (k3.out.cell (i := 0) rfl)
              go_wp2_with fail
              clear p0 p1
              have hb6 := below_new1 w6 (.cells #[.bool t, .slice x2 l y2] 51)
              replace HB := Lib.hid (HB.out.trans (hb6.mono HB.out.size))
              replace k0 := Lib.hid (k0.out.keep hb6)
              replace k1 := Lib.hid (k1.out.keep hb6)
              replace k3 := Lib.hid (k3.out.keep hb6)
              replace Q6 := Lib.hid (Q6.out.keep hb6)
              have k6 := Lib.hid (Lok.new w6 51 #[.bool t, .slice x2 l y2])
              clear hb6
              generalize w6.alloc (.cells #[.bool t, .slice x2 l y2] 51) = V6 at *
              generalize w6.heap.size = g6 at *
              ((with_reducible refine (wide_any Q6.out SQ.out).mono ?_); rintro e w7 ⟨hb7, hh, ll, rr, rfl, hw⟩)
              obtain ⟨e1, e2⟩ := hw.2 FT.out
              rw [QD.out.1] at e1
              rw [QD.out.2.1] at e2
              subst e1 e2
              replace HB := Lib.hid (HB.out.trans (hb7.mono HB.out.size))
              replace k1 := Lib.hid (k1.out.keep hb7)
              have hz7 : w.heap.size + 1 < w7.heap.size := k1.out.lt
              have b0 : w7.cell? ⟨w.heap.size + 1, 0, none⟩ = some (.int .i64 0) := k1.out.cell (i := 0) rfl
              have b1 : w7.cell? ⟨w.heap.size + 1, 1, none⟩ = some (.int .i64 0) := k1.out.cell (i := 1) rfl
              have f0 := k1.out.frozen 0
              have f1 := k1.out.frozen 1
              have EL := Lib.hid QD.out.2.2
              clear hb7 hw
              go_wp2
              have kf := ((k1.out.set (i := 0) (v := .int .i64 (dvH hi n))).set (i := 1) (v := .int .i64 (dvL hi lo n))).keep (below_new1 _ (.cells #[.int .i64 (dvH hi n), .int .i64 (dvL hi lo n)] 24))
              have r0 := kf.cell (i := 0) (v := .int .i64 (dvH hi n)) rfl
              have r1 := kf.cell (i := 1) (v := .int .i64 (dvL hi lo n)) rfl
              exact bodyPost_ret (v := .tuple #[.agg #[.int .i64 (dvH hi n), .int .i64 (dvL hi lo n)], .int .i64 (dvR hi lo n), .int .i64 0]) (by simp [results, Tryd.results19, go_sem, r0, r1, EL.out]) rfl ⟨rfl, by have := HB.out; (repeat (first | exact Below.refl _ _ | assumption | refine Below.drew ?_ | refine below_drewN ?_ _ | refine Below.setCell ?_ (by first | omega | (simp; done) | (simp; omega)) _ | refine Below.alloc ?_ (by first | omega | (simp; done) | (simp; omega)) _))⟩
          · have hN : N = (N.natAbs : Int) := by omega
            rw [decide_eq_false hs] at k3
            have QD : Hid (N / n / 1000000000000000000 = dvH hi n ∧ N / n % 1000000000000000000 = dvL hi lo n ∧ lf = dvR hi lo n) := Lib.hid ⟨DP.out.1, DP.out.2.1, by rw [← DP.out.2.2, HLF.out, ← hN]⟩
            have NQ : Hid (vs (quoD D n3 n) 0 n3 = N / n) := Lib.hid (by rw [HM.out, ← hN])
            clear hs hN l0 l1
            obtain ⟨t, l, T, QT⟩ : ∃ (t : Bool) (l : Nat), (Calls Tryd.prog 36 #[.bool false, .slice x2 n3 y2] V5 fun e w' => e = .returned (.agg #[.bool t, .slice x2 l y2]) ∧ Below V5.heap.size V5 w') ∧ NumV V5 (.agg #[.bool t, .slice x2 l y2]) (N / n) := ⟨_, _, trim_any _ _ _ _ _ _ RR.out hcy2, by
              have q := num_of_trim (s := false) RR.out hcy2 (quo_dg DN.out.1 HD.out)
              simp only [Bool.false_eq_true, if_false, if_true] at q
              rw [NQ.out] at q
              exact q⟩
            have TT := Lib.hid T
            have Q6 := Lib.hid QT
            clear T QT
            have p0 := k3.out.cell (i := 0) rfl
            go_wp2_with fail
            ((with_reducible refine (TT.out).mono ?_); rintro e w6 ⟨rfl, hb6⟩)
            replace HB := Lib.hid (HB.out.trans (hb6.mono HB.out.size))
            replace k0 := Lib.hid (k0.out.keep hb6)
            replace k1 := Lib.hid (k1.out.keep hb6)
            replace k3 := Lib.hid (k3.out.keep hb6)
            replace Q6 := Lib.hid (Q6.out.keep hb6)
            clear hb6
            have p1 := keepa (o := .cells #[.bool t, .slice x2 l y2] 51) (k3.out.cell (i := 0) rfl)
            go_wp2_with fail
            clear p0 p1
            have hb6 := below_new1 w6 (.cells #[.bool t, .slice x2 l y2] 51)
            replace HB := Lib.hid (HB.out.trans (hb6.mono HB.out.size))
            replace k0 := Lib.hid (k0.out.keep hb6)
            replace k1 := Lib.hid (k1.out.keep hb6)
            replace k3 := Lib.hid (k3.out.keep hb6)
            replace Q6 := Lib.hid (Q6.out.keep hb6)
            have k6 := Lib.hid (Lok.new w6 51 #[.bool t, .slice x2 l y2])
            clear hb6
            generalize w6.alloc (.cells #[.bool t, .slice x2 l y2] 51) = V6 at *
            generalize w6.heap.size = g6 at *
            ((with_reducible refine (wide_any Q6.out SQ.out).mono ?_); rintro e w7 ⟨hb7, hh, ll, rr, rfl, hw⟩)
            obtain ⟨e1, e2⟩ := hw.2 FT.out
            rw [QD.out.1] at e1
            rw [QD.out.2.1] at e2
            subst e1 e2
            replace HB := Lib.hid (HB.out.trans (hb7.mono HB.out.size))
            replace k1 := Lib.hid (k1.out.keep hb7)
            have hz7 : w.heap.size + 1 < w7.heap.size := k1.out.lt
            have b0 : w7.cell? ⟨w.heap.size + 1, 0, none⟩ = some (.int .i64 0) := k1.out.cell (i := 0) rfl
            have b1 : w7.cell? ⟨w.heap.size + 1, 1, none⟩ = some (.int .i64 0) := k1.out.cell (i := 1) rfl
            have f0 := k1.out.frozen 0
            have f1 := k1.out.frozen 1
            have EL := Lib.hid QD.out.2.2
            clear hb7 hw
            go_wp2
            have kf := ((k1.out.set (i := 0) (v := .int .i64 (dvH hi n))).set (i := 1) (v := .int .i64 (dvL hi lo n))).keep (below_new1 _ (.cells #[.int .i64 (dvH hi n), .int .i64 (dvL hi lo n)] 24))
            have r0 := kf.cell (i := 0) (v := .int .i64 (dvH hi n)) rfl
            have r1 := kf.cell (i := 1) (v := .int .i64 (dvL hi lo n)) rfl
            exact bodyPost_ret (v := .tuple #[.agg #[.int .i64 (dvH hi n), .int .i64 (dvL hi lo n)], .int .i64 (dvR hi lo n), .int .i64 0]) (by simp [results, Tryd.results19, go_sem, r0, r1, EL.out]) rfl ⟨rfl, by have := HB.out; (repeat (first | exact Below.refl _ _ | assumption | refine Below.drew ?_ | refine below_drewN ?_ _ | refine Below.setCell ?_ (by first | omega | (simp; done) | (simp; omega)) _ | refine Below.alloc ?_ (by first | omega | (simp; done) | (simp; omega)) _))⟩
        · obtain ⟨j, rfl⟩ : ∃ j, k = j + 1 := ⟨k - 1, by omega⟩
          rw [show ((j + 1 : Nat) : Int) - 1 = (j : Int) from by omega]
          have hj : j < n3 := by omega
          obtain ⟨b, off, rfl, hlb, hcell⟩ := RB.out.at hj
          have hc' := hcell j hj
          obtain ⟨q, eq⟩ : ∃ q, q = quoD D n3 n (n3 - 1 - j) := ⟨_, rfl⟩
          simp only [← eq] at hc'
          have HQ := Lib.hid eq
          have HOa := Lib.hid (HO.out.alloc (.cells #[.int .i64 q] 3))
          clear hcell eq
          go_wp2_with (first
            | (at_builtin; refine wpList_append_own _ rfl _ _ 49 rfl V4.heap.size 3 i0 (.int .i64 0) 1 8 Tryd.underlying49 hi' hz0 hz1 hz2 rfl (by decide) _ _ _ rfl HOa.out ⟨wr.heap.size, 0, none⟩ 1 1 [.int .i64 q] rfl rfl ?e1 ?e2 ?e3 ?e4 ?e5 ?_))
          case e1 =>
            intro j u hj
            match j, hj with
            | 0, hj => simp at hj; subst hj; simp [Addr.add]
          case e2 => intro u hu; simp at hu; subst hu; rfl
          case e3 => unfold maxLen; omega
          case e4 => omega
          case e5 => simp; omega
          intro v' w4 hown' hgrow _
          have hBr : Below V4.heap.size wr w4 := ((Below.refl V4.heap.size wr).alloc hz _).grown hgrow (by simp; omega) (fun g hg => (HOa.out.lt g hg).1)
          rw [show n3 - (j + 1) + 1 = n3 - j from by omega, show upto (quoD D n3 n) (n3 - (j + 1)) ++ [.int .i64 q] = upto (quoD D n3 n) (n3 - j) from by
            rw [show n3 - j = n3 - (j + 1) + 1 from by omega, upto_succ, HQ.out, show n3 - 1 - j = n3 - (j + 1) from by omega]] at hown'
          have X5 := Lib.hid (And.intro hown' (HR.out.trans hBr))
          clear hown' hgrow hBr hc' hlb
          go_wp2
          go_roundw
          case rel => exact ⟨j, by omega, rfl, X5.out.1, X5.out.2⟩
          case measure => simp [intOf]
    · obtain ⟨j, rfl⟩ : ∃ j, k = j + 1 := ⟨k - 1, by omega⟩
      rw [show ((j + 1 : Nat) : Int) - 1 = (j : Int) from by omega]
      have hj : j < n3 := by omega
      obtain ⟨b, off, rfl, hlb, hcell⟩ := RB.out.at hj
      have hc := hcell j hj
      obtain ⟨q1, q2⟩ := QS.out j hj
      have hd := HD.out j hj
      have n1 := DN.out.1
      have n2 : n ≤ 1000000000 := DN.out.2
      have l0 := Int.emod_nonneg (topD D n3 (j + 1)) (b := n) (by omega)
      have l1 := Int.emod_lt_of_pos (topD D n3 (j + 1)) (b := n) (by omega)
      have HQ1 := Lib.hid q1
      have HQ2 := Lib.hid q2
      have p0 := k3.out.cell (i := 1) rfl
      clear hcell q1 q2
      generalize hL : topD D n3 (j + 1) % n = lf at *
      generalize D j = dj at *
      have g1 : 0 ≤ 10 * lf ∧ 10 * lf ≤ 10000000000 := by omega
      have g2 : 0 ≤ 10 * lf + dj ∧ 10 * lf + dj ≤ 10000000009 := by omega
      have HL := Lib.hid hL
      have nz : (n == 0) = false := by rw [beq_eq_false_iff_ne]; omega
      have ht : (10 * lf + dj).tdiv n = quoD D n3 n j := by rw [Int.tdiv_eq_ediv_of_nonneg g2.1]; exact HQ1.out
      have hm : (10 * lf + dj).tmod n = topD D n3 j % n := by rw [Int.tmod_eq_emod_of_nonneg g2.1]; exact HQ2.out
      have hy := quo_dg DN.out.1 HD.out j hj
      have nz2 : ¬ n = 0 := by omega
      have hr := Int.emod_nonneg (topD D n3 j) (b := n) nz2
      have hr1 := Int.emod_lt_of_pos (topD D n3 j) (b := n) (by omega)
      obtain ⟨y, ey⟩ : ∃ y, y = quoD D n3 n j := ⟨_, rfl⟩
      obtain ⟨r, er⟩ : ∃ r, r = topD D n3 j % n := ⟨_, rfl⟩
      rw [← ey] at ht hy
      rw [← er] at hm hr hr1
      obtain ⟨hy0, hy1⟩ := hy
      have HY := Lib.hid ey
      have HM := Lib.hid er
      have hr2 : r ≤ 1000000000 := by omega
      clear hL n2 ey er l0 l1 hd n1 hr1 nz
      go_upto_region 10 with fail
      clear p0 g1
      generalize 10 * lf + dj = X at *
      clear g2
      have HOa := Lib.hid (HO.out.alloc (.cells #[.int .i64 y] 3))
      go_wp2_with (first
        | (at_builtin; refine wpList_append_own _ rfl _ _ 49 rfl V3.heap.size 3 i0 (.int .i64 0) 1 8 Tryd.underlying49 hi' hz0 hz1 hz2 rfl (by decide) _ _ _ rfl HOa.out ⟨wr.heap.size, 0, none⟩ 1 1 [.int .i64 y] rfl rfl ?c1 ?c2 ?c3 ?c4 ?c5 ?_))
      case c1 =>
        intro j u hj
        match j, hj with
        | 0, hj => simp at hj; subst hj; simp [Addr.add]
      case c2 => intro u hu; simp at hu; subst hu; rfl
      case c3 => unfold maxLen; omega
      case c4 => omega
      case c5 => simp; omega
      intro v' w4 hown' hgrow _
      have hBr : Below V3.heap.size wr w4 := ((Below.refl V3.heap.size wr).alloc hz _).grown hgrow (by simp; omega) (fun g hg => (HOa.out.lt g hg).1)
      rw [show n3 - (j + 1) + 1 = n3 - j from by omega, show upto (fun t => quoD D n3 n (n3 - 1 - t)) (n3 - (j + 1)) ++ [.int .i64 y] = upto (fun t => quoD D n3 n (n3 - 1 - t)) (n3 - j) from by
        rw [show n3 - j = n3 - (j + 1) + 1 from by omega, upto_succ, show n3 - 1 - (n3 - (j + 1)) = j from by omega, HY.out]] at hown'
      have X5 := Lib.hid (And.intro hown' (HR.out.trans hBr))
      clear hown' hgrow hBr hc hlb
      go_wp2
      go_roundw
      case rel => exact ⟨j, by omega, rfl, by rw [HM.out], X5.out.1, X5.out.2⟩
      case measure => simp [intOf]
end Go.Proofs.YtjndajndllimhaaDoor
