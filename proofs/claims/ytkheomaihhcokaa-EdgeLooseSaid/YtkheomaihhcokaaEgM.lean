/-
  The law EdgeLoose, from what the package is to answer.
-/
import Derived.Test.YtkheomaihhcokaaEgS
import Derived.BigQuiet
namespace Go.Proofs.Ytkheomaihhcokaa
open Go.RowKit

theorem ls_at {L : List (Int × Int × List Int)} {k : Nat} {e : Int × Int × List Int} (h : L[k]? = some e) (q : e.2.2.length = 1) : (lsL L)[(lsL (L.take k)).length]? = some e := by
  have hk : k < L.length := by
    rcases Nat.lt_or_ge k L.length with z | z
    · exact z
    · rw [List.getElem?_eq_none z] at h; cases h
  have s : lsL L = lsL (L.take (k + 1)) ++ lsL (L.drop (k + 1)) := by
    unfold lsL
    rw [← List.filter_append, List.take_append_drop]
  rw [s, ls_yes h q, List.append_assoc, List.getElem?_append_right (Nat.le_refl _), Nat.sub_self]
  rfl
set_option maxRecDepth 100000 in
set_option maxHeartbeats 16000000 in
theorem law_loose (E : EdgeOK) (a : Option Addr) (n c : Nat) (L : List (Int × Int × List Int)) (w : World) (hl : RowE w a n L) (hn : n ≤ 9223372036854775807) :
    Calls Try.prog 7 #[.slice a n c] w fun e w' => e = .returned (.bool true) ∧ Below w.heap.size w w' := by
  have HB := Lib.hid (Below.refl w.heap.size w)
  have BG := Lib.hid (fun W (h : Below w.heap.size w W) => rbig_edges a n c L W (hl.keep h) hn)
  have R := Lib.hid hl
  have hln := Lib.hid hl.1
  clear hl
  cases hb : bigB L with
  | true =>
    rw [hb] at BG
    go_enter Try.func7, Try.ntmps7
    go_wp2_with fail
    (((with_reducible refine (BG.out _ HB.out).mono ?_); rintro e w1 ⟨rfl, hb1⟩); replace HB := Lib.hid (HB.out.trans (hb1.mono HB.out.size)); clear hb1)
    go_wp2
    go_ret
    exact ⟨rfl, HB.out⟩
  | false =>
    obtain ⟨hn60, h60⟩ := big_no hb
    rw [hln.out] at hn60
    rw [hb] at BG
    clear hb
    have H60 := Lib.hid h60
    have LO := Lib.hid (fun W (h : Below w.heap.size w W) => E.loose a n c L W (R.out.keep h) hn60 H60.out)
    have E0 := Lib.hid E
    clear E h60
    go_enter Try.func7, Try.ntmps7
    go_wp2_with fail
    (((with_reducible refine (BG.out _ HB.out).mono ?_); rintro e w1 ⟨rfl, hb1⟩); replace HB := Lib.hid (HB.out.trans (hb1.mono HB.out.size)); clear hb1)
    clear BG
    go_wp2_with fail
    ((with_reducible refine (LO.out _ HB.out).mono ?_); rintro e w2 ⟨⟨v2, Z2, rfl, O2, HZ2⟩, hb2⟩)
    clear LO
    obtain ⟨a2, c2, rfl, -, lc2, mc2, R2⟩ := rowE_of_own O2
    have l2 : Z2.length = (lsL L).length := by
      have := congrArg List.length HZ2
      rwa [List.length_map] at this
    rw [HZ2] at R2
    have LL := Lib.hid l2
    have lm : Z2.length ≤ 60 := by
      rw [l2]
      have := ls_len L n
      rw [List.take_of_length_le (Nat.le_of_eq hln.out)] at this
      omega
    clear O2 HZ2 l2
    generalize Z2.length = m at *
    replace R2 := Lib.hid R2
    replace HB := Lib.hid (HB.out.trans (hb2.mono HB.out.size))
    have B2 := Lib.hid (Below.refl w2.heap.size w2)
    clear hb2
    have HB0 := HB
    clear HB
    go_wp2_with fail
    go_loopw [4, 5] (fun y x wr => ∃ k : Nat, x = .int .i64 k ∧ k ≤ n ∧ y = .int .i64 ((lsL (L.take k)).length : Int) ∧ Below w2.heap.size w2 wr) (fun _ x _ => n - (intOf x).toNat)
    case atStart => exact ⟨0, rfl, Nat.zero_le _, rfl, B2.out⟩
    case round =>
      clear B2
      obtain ⟨k, rfl, hk, rfl, hB⟩ := hrel
      have HB := Lib.hid (HB0.out.trans (hB.mono HB0.out.size))
      have B2 := Lib.hid hB
      clear hB
      by_cases hlt : k < n
      · have i0 : (0 : Int) ≤ (k : Int) := by omega
        have i1 : (k : Int) < (n : Int) := by omega
        have i2 : ((k : Int)).toNat = k := by omega
        obtain ⟨b, o, t, m1, ct, x, y, l, rfl, hb, hL, hx, hy, hz, hr, -, hmc, hcm⟩ := (R.out.keep HB.out).at hlt
        have HL := Lib.hid hL
        clear hL
        by_cases h1 : m1 = 1
        · subst h1
          have len1 : l.length = 1 := hr.1
          obtain ⟨z, rfl⟩ := List.length_eq_one_iff.1 len1
          have at2 := ls_at HL.out len1
          have E1 := Lib.hid (ls_yes HL.out len1)
          have jm : (lsL (L.take k)).length < m := by
            rw [LL.out]
            rcases Nat.lt_or_ge (lsL (L.take k)).length (lsL L).length with q | q
            · exact q
            · rw [List.getElem?_eq_none q] at at2; cases at2
          have E2 : Hid ((lsL (L.take (k + 1))).length = (lsL (L.take k)).length + 1) := Lib.hid (by rw [E1.out, List.length_append]; rfl)
          generalize (lsL (L.take k)).length = j at *
          clear E1 len1 HL
          obtain ⟨b', o', t', m', ct', x', y', l', rfl, hb', hL', hx', hy', hz', hr', -, hmc', hcm'⟩ := (R2.out.keep B2.out).at jm
          rw [at2] at hL'
          cases hL'
          obtain rfl : m' = 1 := hr'.1.symm
          clear at2
          obtain ⟨p, q, rfl, hp, hc⟩ := hr.at (i := 0) (by omega)
          obtain ⟨p', q', rfl, hp', hc'⟩ := hr'.at (i := 0) (by omega)
          have c0 := hc 0 (by omega)
          have c1 := hc' 0 (by omega)
          rw [show List.getD [z] 0 0 = z from rfl, Nat.add_zero] at c0 c1
          rw [← Nat.add_assoc] at hy hz hy' hz'
          have j0 : (0 : Int) ≤ (j : Int) := by omega
          have j1 : (j : Int) < (m : Int) := by omega
          have j2 : ((j : Int)).toNat = j := by omega
          have j3 : ¬ (m : Int) ≤ (j : Int) := by omega
          have j4 : ¬ m ≤ j := by omega
          clear hr hr' hc hc' hmc hcm hmc' hcm'
          go_upto_region 9 with fail
          go_quiet (fail)
          go_wp2
          go_roundw
          case rel => exact ⟨k + 1, by go_num, hlt, by rw [E2.out]; go_num, below_drewN B2.out _⟩
          case measure => simp [intOf]; omega
        · have E1 := Lib.hid (ls_no HL.out (by show ¬ l.length = 1; rw [hr.1]; exact h1))
          have h2 : ((m1 : Int) == 1) = false := by rw [beq_eq_false_iff_ne]; omega
          have h3 : ((m1 : Int) != 1) = true := by rw [bne, h2]; rfl
          have h4 : ¬ (m1 : Int) = 1 := by omega
          rw [← Nat.add_assoc] at hy hz
          clear hr hmc hcm
          go_wp2
          go_roundw
          case rel => exact ⟨k + 1, by go_num, hlt, by rw [E1.out], B2.out⟩
          case measure => simp [intOf]; omega
      · obtain rfl : k = n := by omega
        rw [List.take_of_length_le (Nat.le_of_eq hln.out), ← LL.out]
        have R3 := Lib.hid (R2.out.keep B2.out)
        have L60 : Hid (∀ e ∈ lsL L, e.2.2.length ≤ 60) := Lib.hid (fun e he => H60.out e (List.mem_filter.1 he).1)
        have ED := edged_any E0.out
        go_wp2_with fail
        (((with_reducible refine (ED _).mono ?_); rintro e w5 ⟨rfl, hb5⟩); replace HB := Lib.hid (HB.out.trans (hb5.mono HB.out.size)); replace R3 := Lib.hid (R3.out.keep hb5); clear hb5)
        clear ED
        go_wp2_with fail
        have LO := E0.out.loose a2 m c2 (lsL L) _ R3.out lm L60.out
        ((with_reducible refine LO.mono ?_); rintro e w6 ⟨⟨v6, Z6, rfl, O6, HZ6⟩, hb6⟩)
        clear LO
        obtain ⟨a6, c6, rfl, -, lc6, mc6, R6⟩ := rowE_of_own O6
        rw [HZ6, ls_again] at R6
        replace R3 := Lib.hid (R3.out.keep hb6)
        replace HB := Lib.hid (HB.out.trans (hb6.mono HB.out.size))
        have l6 : Z6.length ≤ 60 := by
          have := R6.1
          rw [← LL.out] at this
          omega
        replace R6 := Lib.hid R6
        clear O6 HZ6 hb6
        generalize Z6.length = m6 at *
        have SA := rsame_edges a6 a2 m6 m c6 c2 (lsL L) (lsL L) _ R6.out R3.out (by omega) (by omega)
        rw [seB_self] at SA
        go_wp2_with fail
        (((with_reducible refine (SA).mono ?_); rintro e w7 ⟨rfl, hb7⟩); replace HB := Lib.hid (HB.out.trans (hb7.mono HB.out.size)); clear hb7)
        go_wp2
        go_ret
        exact ⟨rfl, HB.out⟩
end Go.Proofs.Ytkheomaihhcokaa
